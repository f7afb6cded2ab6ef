/- The model's l1Signed. -/
import Derived.Test.YtdbnjoeanoiifaaDoorPs1
import Derived.IntWalk
namespace Go.Proofs.YtdbnjoeanoiifaaDoor
open Go.RowKit
set_option linter.unusedVariables false
set_option linter.unusedSimpArgs false
attribute [local irreducible] World.setCell

/-- the digits from a on, the first i of them -/
def sgF (s : ByteArray) (a : Nat) : Nat → Nat
  | 0 => 0
  | i + 1 => match s.data.toList[a + i]? with
    | none => sgF s a i
    | some b => if 48 ≤ b.toNat ∧ b.toNat ≤ 57 then 10 * sgF s a i + (b.toNat - 48) else sgF s a i
theorem sgF_lt (s : ByteArray) (a : Nat) : ∀ i, sgF s a i < 10 ^ i
  | 0 => by show 0 < 1; decide
  | i + 1 => by
    have ih := sgF_lt s a i
    rw [sgF, Nat.pow_succ]
    split
    · omega
    · split <;> omega
theorem sgF_bd (s : ByteArray) (a : Nat) {i : Nat} (h : i ≤ 12) : sgF s a i < 1000000000000 := by
  have h1 := sgF_lt s a i
  have h2 : 10 ^ i ≤ 10 ^ 12 := Nat.pow_le_pow_right (by decide) h
  omega
theorem sgF_hit {s : ByteArray} {a i d : Nat} (h : a + i < s.size) (e : (s[a + i]'h).toNat = 48 + d) (hd : d ≤ 9) : sgF s a (i + 1) = 10 * sgF s a i + d := by
  have h2 : a + i < s.data.toList.length := by rw [Array.length_toList]; exact h
  rw [sgF, List.getElem?_eq_getElem h2]
  have e2 : (s.data.toList[a + i]).toNat = 48 + d := e
  dsimp only
  rw [e2, if_pos (by omega)]
  omega
theorem sgF_miss {s : ByteArray} {a i : Nat} (h : a + i < s.size) (e : ¬ (48 ≤ (s[a + i]'h).toNat ∧ (s[a + i]'h).toNat ≤ 57)) : sgF s a (i + 1) = sgF s a i := by
  have h2 : a + i < s.data.toList.length := by rw [Array.length_toList]; exact h
  rw [sgF, List.getElem?_eq_getElem h2]
  have e2 : ¬ (48 ≤ (s.data.toList[a + i]).toNat ∧ (s.data.toList[a + i]).toNat ≤ 57) := e
  dsimp only
  rw [if_neg e2]
theorem sgF_hit0 {s : ByteArray} {i d : Nat} (h : i < s.size) (e : (s[i]'h).toNat = 48 + d) (hd : d ≤ 9) : sgF s 0 (i + 1) = 10 * sgF s 0 i + d :=
  sgF_hit (a := 0) (by rw [Nat.zero_add]; exact h) (by simp only [Nat.zero_add]; exact e) hd
theorem sgF_miss0 {s : ByteArray} {i : Nat} (h : i < s.size) (e : ¬ (48 ≤ (s[i]'h).toNat ∧ (s[i]'h).toNat ≤ 57)) : sgF s 0 (i + 1) = sgF s 0 i :=
  sgF_miss (a := 0) (by rw [Nat.zero_add]; exact h) (by simp only [Nat.zero_add]; exact e)
/-- a text begins with a minus sign and has more -/
def ngB (s : ByteArray) : Prop := 1 < s.size ∧ s.data.toList[0]?.map (fun b => (b.toNat : Int)) = some 45
open Classical in
/-- what the model reads -/
noncomputable def sgV (s : ByteArray) : Int := if ngB s then -(sgF s 1 (min s.size 12 - 1) : Int) else (sgF s 0 (min s.size 12) : Int)
theorem sgV_bd (s : ByteArray) : -1000000000000 < sgV s ∧ sgV s < 1000000000000 := by
  unfold sgV
  have h1 := sgF_bd s 1 (i := min s.size 12 - 1) (by omega)
  have h2 := sgF_bd s 0 (i := min s.size 12) (by omega)
  split <;> omega
set_option maxRecDepth 100000 in
set_option maxHeartbeats 8000000 in
theorem sgn_n {s : ByteArray} {V : Nat} (hs : s.size ≤ 1048576) (hV : sgF s 1 (min s.size 12 - 1) = V) (h1 : 1 < s.size) (h45 : ((s[0]'(by omega)).toNat : Int) = 45) (w : World) :
    Calls Tryd.prog 38 #[.string s] w fun ee w' => ee = .returned (.int .i64 (-(V : Int))) ∧ w = w' := by
  have HV := lay hV
  clear hV
  have h1' : (1 : Int) < (s.size : Int) := by omega
  have h0' : (0 : Int) < (s.size : Int) := by omega
  go_enter Tryd.func38, Tryd.ntmps38
  go_wp2_with (fail)
  go_loopg [3, 5] (min s.size 12 - 1) (fun r s3 s5 wr => ∃ i n : Nat, i + r = min s.size 12 - 1 ∧ s3 = .int .i64 (n : Int) ∧ s5 = .int .i64 ((1 + i : Nat) : Int) ∧ Hid (sgF s 1 i = n) ∧ w = wr)
  case atStart => exact ⟨0, 0, by omega, rfl, rfl, lay rfl, rfl⟩
  case round =>
    obtain ⟨i, n, hi, rfl, rfl, HS, rfl⟩ := hrel
    have hn := sgF_bd s 1 (i := i) (by omega)
    rw [HS.out] at hn
    obtain ⟨j, hj⟩ : ∃ j, 1 + i = j := ⟨_, rfl⟩
    rw [hj]
    cases gk with
    | zero =>
      have hE : n = V := by
        rw [← HS.out, ← HV.out]
        congr 1
      subst hE
      have z1 : IntKind.i64.wrap ((-1 : Int) * (n : Int)) = -(n : Int) := by rw [IntWalk.i64_in _ (by omega)]; omega
      have hend : ¬ ((j : Int) < (s.size : Int)) ∨ ((j : Int) < (s.size : Int) ∧ ¬ ((j : Int) < 12)) := by omega
      rcases hend with h | ⟨h, h2⟩
      · go_wp2_with (fail)
        go_ret
        exact ⟨rfl, rfl⟩
      · go_wp2_with (fail)
        go_ret
        exact ⟨rfl, rfl⟩
    | succ r =>
      have hlt : j < s.size := by omega
      have j0 : (0 : Int) ≤ (j : Int) := by omega
      have j1 : (j : Int) < (s.size : Int) := by omega
      have j2 : (j : Int) < 12 := by omega
      have e1 : IntKind.i64.wrap ((j : Int) + 1) = ((j + 1 : Nat) : Int) := by rw [IntWalk.i64_in _ (by omega)]; omega
      obtain ⟨b, hb⟩ : ∃ b : Nat, (s[j]'hlt).toNat = b := ⟨_, rfl⟩
      have hbI : ((s[j]'hlt).toNat : Int) = (b : Int) := by rw [hb]
      subst hj
      have hlt' := hlt
      by_cases c1 : 48 ≤ b
      · have c1' : (48 : Int) ≤ (b : Int) := by omega
        by_cases c2 : b ≤ 57
        · have c2' : (b : Int) ≤ 57 := by omega
          obtain ⟨d, rfl⟩ : ∃ d, b = 48 + d := ⟨b - 48, by omega⟩
          have hd : ((48 + d : Nat) : Int) - 48 = (d : Int) := by omega
          have g1 : IntKind.u8.wrap (((48 + d : Nat) : Int) - 48) = (d : Int) := by rw [hd]; simp [IntKind.wrap, IntKind.bits, IntKind.signed]; omega
          have g2 : IntKind.i64.wrap (d : Int) = (d : Int) := IntWalk.i64_in _ (by omega)
          have g3 : IntKind.i64.wrap (10 * (n : Int)) = ((10 * n : Nat) : Int) := by rw [IntWalk.i64_in _ (by omega)]; omega
          have g4 : IntKind.i64.wrap (((10 * n : Nat) : Int) + (d : Int)) = ((10 * n + d : Nat) : Int) := by rw [IntWalk.i64_in _ (by omega)]; omega
          have HS2 : Hid (sgF s 1 (i + 1) = 10 * n + d) := by
            show _ = _
            rw [sgF_hit hlt' hb (by omega), HS.out]
          go_wp2_with (fail)
          go_roundg r
          case measure => omega
          case rel => exact ⟨i + 1, 10 * n + d, by omega, by congr 1; omega, by congr 1, HS2, rfl⟩
        · have c2' : ¬ ((b : Int) ≤ 57) := by omega
          have HS2 : Hid (sgF s 1 (i + 1) = n) := by show _ = _; rw [sgF_miss hlt' (by rw [hb]; omega), HS.out]
          go_wp2_with (fail)
          go_roundg r
          case measure => omega
          case rel => exact ⟨i + 1, n, by omega, rfl, by congr 1, HS2, rfl⟩
      · have c1' : ¬ ((48 : Int) ≤ (b : Int)) := by omega
        have HS2 : Hid (sgF s 1 (i + 1) = n) := by show _ = _; rw [sgF_miss hlt' (by rw [hb]; omega), HS.out]
        go_wp2_with (fail)
        go_roundg r
        case measure => omega
        case rel => exact ⟨i + 1, n, by omega, rfl, by congr 1, HS2, rfl⟩
set_option maxRecDepth 100000 in
set_option maxHeartbeats 8000000 in
theorem sgn_p1 {s : ByteArray} {V : Nat} (hs : s.size ≤ 1048576) (hV : sgF s 0 (min s.size 12 - 0) = V) (h1 : s.size ≤ 1) (w : World) :
    Calls Tryd.prog 38 #[.string s] w fun ee w' => ee = .returned (.int .i64 ((V : Int))) ∧ w = w' := by
  have HV := lay hV
  clear hV
  have h1' : ¬ ((1 : Int) < (s.size : Int)) := by omega
  go_enter Tryd.func38, Tryd.ntmps38
  go_wp2_with (fail)
  go_loopg [3, 5] (min s.size 12 - 0) (fun r s3 s5 wr => ∃ i n : Nat, i + r = min s.size 12 - 0 ∧ s3 = .int .i64 (n : Int) ∧ s5 = .int .i64 ((i : Nat) : Int) ∧ Hid (sgF s 0 i = n) ∧ w = wr)
  case atStart => exact ⟨0, 0, by omega, rfl, rfl, lay rfl, rfl⟩
  case round =>
    obtain ⟨i, n, hi, rfl, rfl, HS, rfl⟩ := hrel
    have hn := sgF_bd s 0 (i := i) (by omega)
    rw [HS.out] at hn
    cases gk with
    | zero =>
      have hE : n = V := by
        rw [← HS.out, ← HV.out]
        congr 1
      subst hE
      have z1 : IntKind.i64.wrap ((1 : Int) * (n : Int)) = (n : Int) := by rw [IntWalk.i64_in _ (by omega)]; omega
      have hend : ¬ ((i : Int) < (s.size : Int)) ∨ ((i : Int) < (s.size : Int) ∧ ¬ ((i : Int) < 12)) := by omega
      rcases hend with h | ⟨h, h2⟩
      · go_wp2_with (fail)
        go_ret
        exact ⟨rfl, rfl⟩
      · go_wp2_with (fail)
        go_ret
        exact ⟨rfl, rfl⟩
    | succ r =>
      have hlt : i < s.size := by omega
      have j0 : (0 : Int) ≤ (i : Int) := by omega
      have j1 : (i : Int) < (s.size : Int) := by omega
      have j2 : (i : Int) < 12 := by omega
      have e1 : IntKind.i64.wrap ((i : Int) + 1) = ((i + 1 : Nat) : Int) := by rw [IntWalk.i64_in _ (by omega)]; omega
      obtain ⟨b, hb⟩ : ∃ b : Nat, (s[i]'hlt).toNat = b := ⟨_, rfl⟩
      have hbI : ((s[i]'hlt).toNat : Int) = (b : Int) := by rw [hb]
      have hlt' := hlt
      by_cases c1 : 48 ≤ b
      · have c1' : (48 : Int) ≤ (b : Int) := by omega
        by_cases c2 : b ≤ 57
        · have c2' : (b : Int) ≤ 57 := by omega
          obtain ⟨d, rfl⟩ : ∃ d, b = 48 + d := ⟨b - 48, by omega⟩
          have hd : ((48 + d : Nat) : Int) - 48 = (d : Int) := by omega
          have g1 : IntKind.u8.wrap (((48 + d : Nat) : Int) - 48) = (d : Int) := by rw [hd]; simp [IntKind.wrap, IntKind.bits, IntKind.signed]; omega
          have g2 : IntKind.i64.wrap (d : Int) = (d : Int) := IntWalk.i64_in _ (by omega)
          have g3 : IntKind.i64.wrap (10 * (n : Int)) = ((10 * n : Nat) : Int) := by rw [IntWalk.i64_in _ (by omega)]; omega
          have g4 : IntKind.i64.wrap (((10 * n : Nat) : Int) + (d : Int)) = ((10 * n + d : Nat) : Int) := by rw [IntWalk.i64_in _ (by omega)]; omega
          have HS2 : Hid (sgF s 0 (i + 1) = 10 * n + d) := by
            show _ = _
            rw [sgF_hit0 hlt' hb (by omega), HS.out]
          go_wp2_with (fail)
          go_roundg r
          case measure => omega
          case rel => exact ⟨i + 1, 10 * n + d, by omega, by congr 1; omega, by first | rfl | congr 1, HS2, rfl⟩
        · have c2' : ¬ ((b : Int) ≤ 57) := by omega
          have HS2 : Hid (sgF s 0 (i + 1) = n) := by show _ = _; rw [sgF_miss0 hlt' (by rw [hb]; omega), HS.out]
          go_wp2_with (fail)
          go_roundg r
          case measure => omega
          case rel => exact ⟨i + 1, n, by omega, rfl, by first | rfl | congr 1, HS2, rfl⟩
      · have c1' : ¬ ((48 : Int) ≤ (b : Int)) := by omega
        have HS2 : Hid (sgF s 0 (i + 1) = n) := by show _ = _; rw [sgF_miss0 hlt' (by rw [hb]; omega), HS.out]
        go_wp2_with (fail)
        go_roundg r
        case measure => omega
        case rel => exact ⟨i + 1, n, by omega, rfl, by first | rfl | congr 1, HS2, rfl⟩
set_option maxRecDepth 100000 in
set_option maxHeartbeats 8000000 in
theorem sgn_p2 {s : ByteArray} {V : Nat} (hs : s.size ≤ 1048576) (hV : sgF s 0 (min s.size 12 - 0) = V) (h1 : 1 < s.size) (h45 : ((s[0]'(by omega)).toNat : Int) ≠ 45) (w : World) :
    Calls Tryd.prog 38 #[.string s] w fun ee w' => ee = .returned (.int .i64 ((V : Int))) ∧ w = w' := by
  have HV := lay hV
  clear hV
  have h1' : (1 : Int) < (s.size : Int) := by omega
  have h0' : (0 : Int) < (s.size : Int) := by omega
  obtain ⟨b0, hb0⟩ : ∃ b : Int, ((s[0]'(by omega)).toNat : Int) = b := ⟨_, rfl⟩
  rw [hb0] at h45
  have hd1 : decide (b0 = 45) = false := decide_eq_false h45
  have hd2 : (b0 == 45) = false := by simpa using h45
  go_enter Tryd.func38, Tryd.ntmps38
  go_wp2_with (fail)
  go_loopg [3, 5] (min s.size 12 - 0) (fun r s3 s5 wr => ∃ i n : Nat, i + r = min s.size 12 - 0 ∧ s3 = .int .i64 (n : Int) ∧ s5 = .int .i64 ((i : Nat) : Int) ∧ Hid (sgF s 0 i = n) ∧ w = wr)
  case atStart => exact ⟨0, 0, by omega, rfl, rfl, lay rfl, rfl⟩
  case round =>
    obtain ⟨i, n, hi, rfl, rfl, HS, rfl⟩ := hrel
    have hn := sgF_bd s 0 (i := i) (by omega)
    rw [HS.out] at hn
    cases gk with
    | zero =>
      have hE : n = V := by
        rw [← HS.out, ← HV.out]
        congr 1
      subst hE
      have z1 : IntKind.i64.wrap ((1 : Int) * (n : Int)) = (n : Int) := by rw [IntWalk.i64_in _ (by omega)]; omega
      have hend : ¬ ((i : Int) < (s.size : Int)) ∨ ((i : Int) < (s.size : Int) ∧ ¬ ((i : Int) < 12)) := by omega
      rcases hend with h | ⟨h, h2⟩
      · go_wp2_with (fail)
        go_ret
        exact ⟨rfl, rfl⟩
      · go_wp2_with (fail)
        go_ret
        exact ⟨rfl, rfl⟩
    | succ r =>
      have hlt : i < s.size := by omega
      have j0 : (0 : Int) ≤ (i : Int) := by omega
      have j1 : (i : Int) < (s.size : Int) := by omega
      have j2 : (i : Int) < 12 := by omega
      have e1 : IntKind.i64.wrap ((i : Int) + 1) = ((i + 1 : Nat) : Int) := by rw [IntWalk.i64_in _ (by omega)]; omega
      obtain ⟨b, hb⟩ : ∃ b : Nat, (s[i]'hlt).toNat = b := ⟨_, rfl⟩
      have hbI : ((s[i]'hlt).toNat : Int) = (b : Int) := by rw [hb]
      have hlt' := hlt
      by_cases c1 : 48 ≤ b
      · have c1' : (48 : Int) ≤ (b : Int) := by omega
        by_cases c2 : b ≤ 57
        · have c2' : (b : Int) ≤ 57 := by omega
          obtain ⟨d, rfl⟩ : ∃ d, b = 48 + d := ⟨b - 48, by omega⟩
          have hd : ((48 + d : Nat) : Int) - 48 = (d : Int) := by omega
          have g1 : IntKind.u8.wrap (((48 + d : Nat) : Int) - 48) = (d : Int) := by rw [hd]; simp [IntKind.wrap, IntKind.bits, IntKind.signed]; omega
          have g2 : IntKind.i64.wrap (d : Int) = (d : Int) := IntWalk.i64_in _ (by omega)
          have g3 : IntKind.i64.wrap (10 * (n : Int)) = ((10 * n : Nat) : Int) := by rw [IntWalk.i64_in _ (by omega)]; omega
          have g4 : IntKind.i64.wrap (((10 * n : Nat) : Int) + (d : Int)) = ((10 * n + d : Nat) : Int) := by rw [IntWalk.i64_in _ (by omega)]; omega
          have HS2 : Hid (sgF s 0 (i + 1) = 10 * n + d) := by
            show _ = _
            rw [sgF_hit0 hlt' hb (by omega), HS.out]
          go_wp2_with (fail)
          go_roundg r
          case measure => omega
          case rel => exact ⟨i + 1, 10 * n + d, by omega, by congr 1; omega, by first | rfl | congr 1, HS2, rfl⟩
        · have c2' : ¬ ((b : Int) ≤ 57) := by omega
          have HS2 : Hid (sgF s 0 (i + 1) = n) := by show _ = _; rw [sgF_miss0 hlt' (by rw [hb]; omega), HS.out]
          go_wp2_with (fail)
          go_roundg r
          case measure => omega
          case rel => exact ⟨i + 1, n, by omega, rfl, by first | rfl | congr 1, HS2, rfl⟩
      · have c1' : ¬ ((48 : Int) ≤ (b : Int)) := by omega
        have HS2 : Hid (sgF s 0 (i + 1) = n) := by show _ = _; rw [sgF_miss0 hlt' (by rw [hb]; omega), HS.out]
        go_wp2_with (fail)
        go_roundg r
        case measure => omega
        case rel => exact ⟨i + 1, n, by omega, rfl, by first | rfl | congr 1, HS2, rfl⟩
/-- the model reads sgV -/
theorem sgn_s {s : ByteArray} {v : Int} (hv : sgV s = v) (hs : s.size ≤ 1048576) (w : World) :
    Calls Tryd.prog 38 #[.string s] w fun ee w' => ee = .returned (.int .i64 v) ∧ w = w' := by
  subst hv
  unfold sgV
  by_cases h1 : 1 < s.size
  · by_cases h45 : ((s[0]'(by omega)).toNat : Int) = 45
    · rw [if_pos ⟨h1, by rw [byt_at (by omega), h45]⟩]
      exact sgn_n hs rfl h1 h45 w
    · rw [if_neg (fun k => h45 (by have h := k.2; rw [byt_at (by omega)] at h; exact Option.some.inj h))]
      exact sgn_p2 hs rfl h1 h45 w
  · rw [if_neg (fun k => h1 k.1)]
    exact sgn_p1 hs rfl (by omega) w
end Go.Proofs.YtdbnjoeanoiifaaDoor
