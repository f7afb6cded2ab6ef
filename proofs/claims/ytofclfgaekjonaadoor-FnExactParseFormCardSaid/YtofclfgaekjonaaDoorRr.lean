/- The model's l1Read. -/
import Derived.Test.YtofclfgaekjonaaDoorPs1
import Derived.Test.YtofclfgaekjonaaDoorValid
import Derived.IntWalk
namespace Go.Proofs.YtofclfgaekjonaaDoor
open Go.RowKit
set_option linter.unusedVariables false
set_option linter.unusedSimpArgs false
attribute [local irreducible] World.setCell

def dval (l : List UInt8) : Nat := l.foldl (fun a b => 10 * a + (b.toNat - 48)) 0
theorem dval_snoc (l : List UInt8) (b : UInt8) : dval (l ++ [b]) = 10 * dval l + (b.toNat - 48) := by unfold dval; rw [List.foldl_append]; rfl
/-- all bytes are digits -/
def dgs (l : List UInt8) : Prop := ∀ b ∈ l, 48 ≤ b.toNat ∧ b.toNat ≤ 57
theorem dgs_take {s : ByteArray} {i : Nat} (h : i < s.size) (hd : dgs (s.data.toList.take i)) (hb : 48 ≤ (s[i]'h).toNat ∧ (s[i]'h).toNat ≤ 57) : dgs (s.data.toList.take (i + 1)) := by
  have h2 : i < s.data.toList.length := by rw [Array.length_toList]; exact h
  intro b hm
  rw [List.take_succ_eq_append_getElem h2] at hm
  rcases List.mem_append.1 hm with hm | hm
  · exact hd b hm
  · rw [List.mem_singleton] at hm; subst hm; exact hb
theorem dval_take {s : ByteArray} {i d : Nat} (h : i < s.size) (e : (s[i]'h).toNat = 48 + d) : dval (s.data.toList.take (i + 1)) = 10 * dval (s.data.toList.take i) + d := by
  have h2 : i < s.data.toList.length := by rw [Array.length_toList]; exact h
  rw [List.take_succ_eq_append_getElem h2, dval_snoc]
  have e2 : (s.data.toList[i]).toNat = 48 + d := e
  rw [e2]; omega
theorem dval_lt {s : ByteArray} : ∀ i, i ≤ s.size → dgs (s.data.toList.take i) → dval (s.data.toList.take i) < 10 ^ i
  | 0, _, _ => by show 0 < 1; decide
  | i + 1, h, hd => by
    have h2 : i < s.data.toList.length := by rw [Array.length_toList]; exact h
    rw [List.take_succ_eq_append_getElem h2] at hd
    have ih := dval_lt i (by omega) (fun b hb => hd b (List.mem_append_left _ hb))
    have hl := hd (s.data.toList[i]) (by simp)
    rw [List.take_succ_eq_append_getElem h2, dval_snoc, Nat.pow_succ]
    omega
theorem nodgs {s : ByteArray} {i : Nat} (h : i < s.size) (hb : ¬ (48 ≤ (s[i]'h).toNat ∧ (s[i]'h).toNat ≤ 57)) : ¬ dgs s.data.toList := fun hd => by
  have h2 : i < s.data.toList.length := by rw [Array.length_toList]; exact h
  exact hb (hd (s.data.toList[i]) (List.getElem_mem h2))
set_option maxRecDepth 100000 in
set_option maxHeartbeats 2000000 in
theorem lin_t {n lo hi : Int} (h1 : lo ≤ n) (h2 : n ≤ hi) (w : World) :
    Calls Tryd.prog 36 #[.int .i64 n, .int .i64 lo, .int .i64 hi] w fun ee w' => ee = .returned (.bool true) ∧ w = w' := by
  go_enter Tryd.func36, Tryd.ntmps36
  go_wp2_with (fail)
  go_ret
  exact ⟨rfl, rfl⟩
set_option maxRecDepth 100000 in
set_option maxHeartbeats 2000000 in
theorem lin_l {n lo hi : Int} (h0 : n < lo) (w : World) :
    Calls Tryd.prog 36 #[.int .i64 n, .int .i64 lo, .int .i64 hi] w fun ee w' => ee = .returned (.bool false) ∧ w = w' := by
  have h1 : ¬ (lo ≤ n) := by omega
  go_enter Tryd.func36, Tryd.ntmps36
  go_wp2_with (fail)
  go_ret
  exact ⟨rfl, rfl⟩
set_option maxRecDepth 100000 in
set_option maxHeartbeats 2000000 in
theorem lin_h {n lo hi : Int} (h1 : lo ≤ n) (h0 : hi < n) (w : World) :
    Calls Tryd.prog 36 #[.int .i64 n, .int .i64 lo, .int .i64 hi] w fun ee w' => ee = .returned (.bool false) ∧ w = w' := by
  have h2 : ¬ (n ≤ hi) := by omega
  go_enter Tryd.func36, Tryd.ntmps36
  go_wp2_with (fail)
  go_ret
  exact ⟨rfl, rfl⟩
set_option maxRecDepth 100000 in
set_option maxHeartbeats 2000000 in
theorem rd_0 {s : ByteArray} (h : s.size = 0) (w : World) :
    Calls Tryd.prog 33 #[.string s] w fun ee w' => ee = .returned (.int .i64 (-1)) ∧ w = w' := by
  have h1 : (s.size : Int) < 1 := by omega
  clear h
  go_enter Tryd.func33, Tryd.ntmps33
  go_wp2_with (fail)
  refine (lin_l h1 _).mono ?_
  rintro ee w1 ⟨rfl, rfl⟩
  go_wp2_with (fail)
  go_ret
  exact ⟨rfl, rfl⟩
set_option maxRecDepth 100000 in
set_option maxHeartbeats 2000000 in
theorem rd_7 {s : ByteArray} (h : 6 < s.size) (w : World) :
    Calls Tryd.prog 33 #[.string s] w fun ee w' => ee = .returned (.int .i64 (-1)) ∧ w = w' := by
  have h1 : (1 : Int) ≤ (s.size : Int) := by omega
  have h2 : (6 : Int) < (s.size : Int) := by omega
  clear h
  go_enter Tryd.func33, Tryd.ntmps33
  go_wp2_with (fail)
  refine (lin_h h1 h2 _).mono ?_
  rintro ee w1 ⟨rfl, rfl⟩
  go_wp2_with (fail)
  go_ret
  exact ⟨rfl, rfl⟩
set_option maxRecDepth 100000 in
set_option maxHeartbeats 2000000 in
theorem rd_z {s : ByteArray} (h1 : 1 < s.size) (h6 : s.size ≤ 6) (hz : ((s[0]'(by omega)).toNat : Int) = 48) (w : World) :
    Calls Tryd.prog 33 #[.string s] w fun ee w' => ee = .returned (.int .i64 (-1)) ∧ w = w' := by
  have h1' : (1 : Int) ≤ (s.size : Int) := by omega
  have h0' : (0 : Int) < (s.size : Int) := by omega
  have h3 : (1 : Int) < (s.size : Int) := by omega
  have h2 : (s.size : Int) ≤ 6 := by omega
  go_enter Tryd.func33, Tryd.ntmps33
  go_wp2_with (fail)
  refine (lin_t h1' h2 _).mono ?_
  rintro ee w1 ⟨rfl, rfl⟩
  go_wp2_with (fail)
  go_ret
  exact ⟨rfl, rfl⟩
set_option maxRecDepth 100000 in
set_option maxHeartbeats 8000000 in
theorem rd_1 {s : ByteArray} {V : Int} (h1 : 1 ≤ s.size) (h6 : s.size ≤ 6) (hn : s.size ≤ 1) (hz : ((s[0]'(by omega)).toNat : Int) = 48) (hA : dgs s.data.toList → V = (dval s.data.toList : Int)) (hB : ¬ dgs s.data.toList → V = -1) (w : World) :
    Calls Tryd.prog 33 #[.string s] w fun ee w' => ee = .returned (.int .i64 V) ∧ w = w' := by
  have HA := lay hA
  have HB := lay hB
  clear hA hB
  have h1' : (1 : Int) ≤ (s.size : Int) := by omega
  have h0' : (0 : Int) < (s.size : Int) := by omega
  have h2 : (s.size : Int) ≤ 6 := by omega
  have h3 : ¬ ((1 : Int) < (s.size : Int)) := by omega
  go_enter Tryd.func33, Tryd.ntmps33
  go_wp2_with (fail)
  refine (lin_t h1' h2 _).mono ?_
  rintro ee w1 ⟨rfl, rfl⟩
  go_wp2_with (fail)
  go_loopg [3, 4] s.size (fun r s3 s4 wr => ∃ i n : Nat, i + r = s.size ∧ s3 = .int .i64 (n : Int) ∧ s4 = .int .i64 ((i : Nat) : Int) ∧ Hid (dval (s.data.toList.take i) = n) ∧ Hid (dgs (s.data.toList.take i)) ∧ w = wr)
  case atStart => exact ⟨0, 0, by omega, rfl, rfl, lay rfl, lay (fun b hb => by simp at hb), rfl⟩
  case round =>
    obtain ⟨i, n, hi, rfl, rfl, HS, HD, rfl⟩ := hrel
    have hn := dval_lt (s := s) i (by omega) HD.out
    rw [HS.out] at hn
    have hp : 10 ^ i ≤ 10 ^ 6 := Nat.pow_le_pow_right (by decide) (by omega)
    replace hn : n < 1000000 := by omega
    clear hp
    cases gk with
    | zero =>
      have hii : i = s.size := by omega
      have hE : V = (n : Int) := by
        have et : s.data.toList.take i = s.data.toList := List.take_of_length_le (by rw [Array.length_toList, hii]; exact Nat.le_refl _)
        have d := HD.out
        rw [et] at d
        rw [HA.out d, ← HS.out, et]
      have h : ¬ ((i : Int) < (s.size : Int)) := by omega
      clear hii
      go_wp2_with (fail)
      go_ret
      first | exact ⟨rfl, rfl⟩ | exact ⟨by rw [hE]; rfl, rfl⟩
    | succ r =>
      have hlt : i < s.size := by omega
      have j0 : (0 : Int) ≤ (i : Int) := by omega
      have j1 : (i : Int) < (s.size : Int) := by omega
      have e1 : IntKind.i64.wrap ((i : Int) + 1) = ((i + 1 : Nat) : Int) := by rw [IntWalk.i64_in _ (by omega)]; omega
      obtain ⟨b, hb⟩ : ∃ b : Nat, (s[i]'hlt).toNat = b := ⟨_, rfl⟩
      have hbI : ((s[i]'hlt).toNat : Int) = (b : Int) := by rw [hb]
      have hlt' := hlt
      by_cases c1 : 48 ≤ b
      · have c1' : ¬ ((b : Int) < 48) := by omega
        by_cases c2 : b ≤ 57
        · have c2' : ¬ ((57 : Int) < (b : Int)) := by omega
          obtain ⟨d, rfl⟩ : ∃ d, b = 48 + d := ⟨b - 48, by omega⟩
          have hd : ((48 + d : Nat) : Int) - 48 = (d : Int) := by omega
          have g1 : IntKind.u8.wrap (((48 + d : Nat) : Int) - 48) = (d : Int) := by rw [hd]; simp [IntKind.wrap, IntKind.bits, IntKind.signed]; omega
          have g2 : IntKind.i64.wrap (d : Int) = (d : Int) := IntWalk.i64_in _ (by omega)
          have g3 : IntKind.i64.wrap (10 * (n : Int)) = ((10 * n : Nat) : Int) := by rw [IntWalk.i64_in _ (by omega)]; omega
          have g4 : IntKind.i64.wrap (((10 * n : Nat) : Int) + (d : Int)) = ((10 * n + d : Nat) : Int) := by rw [IntWalk.i64_in _ (by omega)]; omega
          have HS2 : Hid (dval (s.data.toList.take (i + 1)) = 10 * n + d) := by
            show _ = _
            rw [dval_take hlt' hb, HS.out]
          have HD2 : Hid (dgs (s.data.toList.take (i + 1))) := lay (dgs_take hlt' HD.out (by rw [hb]; omega))
          go_wp2_with (fail)
          go_roundg r
          case measure => omega
          case rel => exact ⟨i + 1, 10 * n + d, by omega, by congr 1; omega, by first | rfl | congr 1, HS2, HD2, rfl⟩
        · have c2' : (57 : Int) < (b : Int) := by omega
          have hV : V = -1 := HB.out (nodgs hlt' (by rw [hb]; omega))
          go_wp2_with (fail)
          go_ret
          first | exact ⟨rfl, rfl⟩ | exact ⟨by rw [hV]; rfl, rfl⟩
      · have c1' : (b : Int) < 48 := by omega
        have hV : V = -1 := HB.out (nodgs hlt' (by rw [hb]; omega))
        go_wp2_with (fail)
        go_ret
        first | exact ⟨rfl, rfl⟩ | exact ⟨by rw [hV]; rfl, rfl⟩
set_option maxRecDepth 100000 in
set_option maxHeartbeats 8000000 in
theorem rd_n {s : ByteArray} {V : Int} (h1 : 1 ≤ s.size) (h6 : s.size ≤ 6) (hz : ¬ (((s[0]'(by omega)).toNat : Int) = 48)) (hA : dgs s.data.toList → V = (dval s.data.toList : Int)) (hB : ¬ dgs s.data.toList → V = -1) (w : World) :
    Calls Tryd.prog 33 #[.string s] w fun ee w' => ee = .returned (.int .i64 V) ∧ w = w' := by
  have HA := lay hA
  have HB := lay hB
  clear hA hB
  have h1' : (1 : Int) ≤ (s.size : Int) := by omega
  have h0' : (0 : Int) < (s.size : Int) := by omega
  have h2 : (s.size : Int) ≤ 6 := by omega
  go_enter Tryd.func33, Tryd.ntmps33
  go_wp2_with (fail)
  refine (lin_t h1' h2 _).mono ?_
  rintro ee w1 ⟨rfl, rfl⟩
  go_wp2_with (fail)
  go_loopg [3, 4] s.size (fun r s3 s4 wr => ∃ i n : Nat, i + r = s.size ∧ s3 = .int .i64 (n : Int) ∧ s4 = .int .i64 ((i : Nat) : Int) ∧ Hid (dval (s.data.toList.take i) = n) ∧ Hid (dgs (s.data.toList.take i)) ∧ w = wr)
  case atStart => exact ⟨0, 0, by omega, rfl, rfl, lay rfl, lay (fun b hb => by simp at hb), rfl⟩
  case round =>
    obtain ⟨i, n, hi, rfl, rfl, HS, HD, rfl⟩ := hrel
    have hn := dval_lt (s := s) i (by omega) HD.out
    rw [HS.out] at hn
    have hp : 10 ^ i ≤ 10 ^ 6 := Nat.pow_le_pow_right (by decide) (by omega)
    replace hn : n < 1000000 := by omega
    clear hp
    cases gk with
    | zero =>
      have hii : i = s.size := by omega
      have hE : V = (n : Int) := by
        have et : s.data.toList.take i = s.data.toList := List.take_of_length_le (by rw [Array.length_toList, hii]; exact Nat.le_refl _)
        have d := HD.out
        rw [et] at d
        rw [HA.out d, ← HS.out, et]
      have h : ¬ ((i : Int) < (s.size : Int)) := by omega
      clear hii
      go_wp2_with (fail)
      go_ret
      first | exact ⟨rfl, rfl⟩ | exact ⟨by rw [hE]; rfl, rfl⟩
    | succ r =>
      have hlt : i < s.size := by omega
      have j0 : (0 : Int) ≤ (i : Int) := by omega
      have j1 : (i : Int) < (s.size : Int) := by omega
      have e1 : IntKind.i64.wrap ((i : Int) + 1) = ((i + 1 : Nat) : Int) := by rw [IntWalk.i64_in _ (by omega)]; omega
      obtain ⟨b, hb⟩ : ∃ b : Nat, (s[i]'hlt).toNat = b := ⟨_, rfl⟩
      have hbI : ((s[i]'hlt).toNat : Int) = (b : Int) := by rw [hb]
      have hlt' := hlt
      by_cases c1 : 48 ≤ b
      · have c1' : ¬ ((b : Int) < 48) := by omega
        by_cases c2 : b ≤ 57
        · have c2' : ¬ ((57 : Int) < (b : Int)) := by omega
          obtain ⟨d, rfl⟩ : ∃ d, b = 48 + d := ⟨b - 48, by omega⟩
          have hd : ((48 + d : Nat) : Int) - 48 = (d : Int) := by omega
          have g1 : IntKind.u8.wrap (((48 + d : Nat) : Int) - 48) = (d : Int) := by rw [hd]; simp [IntKind.wrap, IntKind.bits, IntKind.signed]; omega
          have g2 : IntKind.i64.wrap (d : Int) = (d : Int) := IntWalk.i64_in _ (by omega)
          have g3 : IntKind.i64.wrap (10 * (n : Int)) = ((10 * n : Nat) : Int) := by rw [IntWalk.i64_in _ (by omega)]; omega
          have g4 : IntKind.i64.wrap (((10 * n : Nat) : Int) + (d : Int)) = ((10 * n + d : Nat) : Int) := by rw [IntWalk.i64_in _ (by omega)]; omega
          have HS2 : Hid (dval (s.data.toList.take (i + 1)) = 10 * n + d) := by
            show _ = _
            rw [dval_take hlt' hb, HS.out]
          have HD2 : Hid (dgs (s.data.toList.take (i + 1))) := lay (dgs_take hlt' HD.out (by rw [hb]; omega))
          go_wp2_with (fail)
          go_roundg r
          case measure => omega
          case rel => exact ⟨i + 1, 10 * n + d, by omega, by congr 1; omega, by first | rfl | congr 1, HS2, HD2, rfl⟩
        · have c2' : (57 : Int) < (b : Int) := by omega
          have hV : V = -1 := HB.out (nodgs hlt' (by rw [hb]; omega))
          go_wp2_with (fail)
          go_ret
          first | exact ⟨rfl, rfl⟩ | exact ⟨by rw [hV]; rfl, rfl⟩
      · have c1' : (b : Int) < 48 := by omega
        have hV : V = -1 := HB.out (nodgs hlt' (by rw [hb]; omega))
        go_wp2_with (fail)
        go_ret
        first | exact ⟨rfl, rfl⟩ | exact ⟨by rw [hV]; rfl, rfl⟩
end Go.Proofs.YtofclfgaekjonaaDoor
