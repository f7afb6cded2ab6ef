/- Names: what IsSubcircuitName and its model answer. -/
import Derived.Test.YtdbnjoeanoiifaaGa
import Derived.Test.YtdbnjoeanoiifaaSeG
namespace Go.Proofs.Ytdbnjoeanoiifaa
open Go.RowKit
set_option linter.unusedVariables false
set_option linter.unusedSimpArgs false
attribute [local irreducible] World.setCell

/-- the first letters are letters a to z -/
def azs (s : ByteArray) (j : Nat) : Prop := ∀ i (h : i < s.size), i < j → 97 ≤ ((s[i]'h).toNat : Int) ∧ ((s[i]'h).toNat : Int) ≤ 122
/-- a name -/
def isNm (s : ByteArray) : Prop := azs s s.size ∧ 1 ≤ s.size ∧ s.size ≤ 8
theorem azs.zero (s : ByteArray) : azs s 0 := fun i _ hi => absurd hi (Nat.not_lt_zero _)
theorem azs.succ {s : ByteArray} {j : Nat} (h : azs s j) (hj : j < s.size) (h1 : 97 ≤ ((s[j]'hj).toNat : Int)) (h2 : ((s[j]'hj).toNat : Int) ≤ 122) : azs s (j + 1) := fun i hi hl => by
  by_cases e : i = j
  · subst e; exact ⟨h1, h2⟩
  · exact h i hi (by omega)
theorem azs.not {s : ByteArray} {j : Nat} (hj : j < s.size) (h : ¬ (97 ≤ ((s[j]'hj).toNat : Int) ∧ ((s[j]'hj).toNat : Int) ≤ 122)) : ¬ isNm s := fun k => h (k.1 j hj hj)
set_option maxRecDepth 100000 in
set_option maxHeartbeats 4000000 in
theorem nm_s {s : ByteArray} {t : Bool} (ht : t = true ↔ isNm s) (hs : s.size ≤ 1048576) (w : World) :
    Calls Try.prog 65 #[.string s] w fun ee w' => ee = .returned (.bool t) ∧ w = w' := by
  have HT := lay ht
  clear ht
  go_enter Try.func65, Try.ntmps65
  go_wp2_with (fail)
  go_loopg [3] s.size (fun k s1 wr => ∃ j : Nat, j + k = s.size ∧ s1 = .int .i64 (j : Int) ∧ Hid (azs s j) ∧ w = wr)
  case atStart => exact ⟨0, by omega, rfl, azs.zero s, rfl⟩
  case round =>
    obtain ⟨j, hj, rfl, HJ, rfl⟩ := hrel
    cases gk with
    | zero =>
      obtain rfl : j = s.size := by omega
      have HI : Hid (inB (s.size : Int) 1 8 = t) := by
        show _ = _
        cases t with
        | true => have h := (HT.out.1 rfl).2; exact inB_t (by omega) (by omega)
        | false => exact inB_f fun k => by have h := HT.out.2 ⟨HJ.out, by omega, by omega⟩; cases h
      go_wp2_with (go_at_call 63; ((with_reducible refine (lin HI.out _).mono ?_); rintro ee w4 ⟨rfl, rfl⟩))
      go_ret
      exact ⟨rfl, rfl⟩
    | succ m =>
      have hlt : j < s.size := by omega
      have j0 : (0 : Int) ≤ (j : Int) := by omega
      have j1 : (j : Int) < (s.size : Int) := by omega
      obtain ⟨b, hb⟩ : ∃ b : Int, ((s[j]'hlt).toNat : Int) = b := ⟨_, rfl⟩
      have HB := lay hb
      have e1 : IntKind.i64.wrap ((j : Int) + 1) = (j : Int) + 1 := IntWalk.i64_in _ (by omega)
      by_cases h1 : b < 97
      · have HF : Hid (false = t) := (boolF HT.out (azs.not hlt (by rw [hb]; omega))).symm
        go_wp2_with (fail)
        go_ret
        exact ⟨ret_bool HF.out, rfl⟩
      by_cases h2 : 122 < b
      · have HF : Hid (false = t) := (boolF HT.out (azs.not hlt (by rw [hb]; omega))).symm
        go_wp2_with (fail)
        go_ret
        exact ⟨ret_bool HF.out, rfl⟩
      have HJ2 : Hid (azs s (j + 1)) := HJ.out.succ hlt (by rw [hb]; omega) (by rw [hb]; omega)
      go_wp2_with (fail)
      go_roundg m
      case measure => omega
      case rel => exact ⟨j + 1, by omega, by go_num, HJ2, rfl⟩
set_option maxRecDepth 100000 in
set_option maxHeartbeats 4000000 in
theorem nm_i {s : ByteArray} {t : Bool} (ht : t = true ↔ isNm s) (hs : s.size ≤ 1048576) (w : World) :
    Calls Try.prog 29 #[.string s] w fun ee w' => ee = .returned (.bool t) ∧ w = w' := by
  have HT := lay ht
  clear ht
  go_enter Try.func29, Try.ntmps29
  go_wp2_with (fail)
  go_loopg [6] s.size (fun k s1 wr => ∃ j : Nat, j + k = s.size ∧ s1 = .int .i64 (j : Int) ∧ Hid (azs s j) ∧ w = wr)
  case atStart => exact ⟨0, by omega, rfl, azs.zero s, rfl⟩
  case round =>
    obtain ⟨j, hj, rfl, HJ, rfl⟩ := hrel
    cases gk with
    | zero =>
      obtain rfl : j = s.size := by omega
      by_cases n1 : 1 ≤ s.size
      · by_cases n8 : s.size ≤ 8
        · have HF : Hid (true = t) := (HT.out.2 ⟨HJ.out, n1, n8⟩).symm
          have n1' : (1 : Int) ≤ (s.size : Int) := by omega
          have n8' : (s.size : Int) ≤ 8 := by omega
          go_wp2_with (fail)
          go_ret
          exact ⟨ret_bool HF.out, rfl⟩
        · have HF : Hid (false = t) := (boolF HT.out (fun k => n8 k.2.2)).symm
          have n1' : (1 : Int) ≤ (s.size : Int) := by omega
          have n8' : ¬ (s.size : Int) ≤ 8 := by omega
          go_wp2_with (fail)
          go_ret
          exact ⟨ret_bool HF.out, rfl⟩
      · have HF : Hid (false = t) := (boolF HT.out (fun k => n1 k.2.1)).symm
        have n1' : ¬ (1 : Int) ≤ (s.size : Int) := by omega
        go_wp2_with (fail)
        go_ret
        exact ⟨ret_bool HF.out, rfl⟩
    | succ m =>
      have hlt : j < s.size := by omega
      have j0 : (0 : Int) ≤ (j : Int) := by omega
      have j1 : (j : Int) < (s.size : Int) := by omega
      obtain ⟨b, hb⟩ : ∃ b : Int, ((s[j]'hlt).toNat : Int) = b := ⟨_, rfl⟩
      have HB := lay hb
      have e1 : IntKind.i64.wrap ((j : Int) + 1) = (j : Int) + 1 := IntWalk.i64_in _ (by omega)
      by_cases h1 : b < 97
      · have HF : Hid (false = t) := (boolF HT.out (azs.not hlt (by rw [hb]; omega))).symm
        go_wp2_with (fail)
        go_ret
        exact ⟨ret_bool HF.out, rfl⟩
      by_cases h2 : 122 < b
      · have HF : Hid (false = t) := (boolF HT.out (azs.not hlt (by rw [hb]; omega))).symm
        go_wp2_with (fail)
        go_ret
        exact ⟨ret_bool HF.out, rfl⟩
      have HJ2 : Hid (azs s (j + 1)) := HJ.out.succ hlt (by rw [hb]; omega) (by rw [hb]; omega)
      go_wp2_with (fail)
      go_roundg m
      case measure => omega
      case rel => exact ⟨j + 1, by omega, by go_num, HJ2, rfl⟩
theorem nm_t {s : ByteArray} {t : Bool} (ht : t = true ↔ isNm s) (hs : s.size ≤ 1048576) (w : World) :
    Calls Try.prog 28 #[.string s] w fun ee w' => ee = .returned (.bool t) ∧ w = w' := by
  have HT := lay ht
  clear ht
  go_enter Try.func28, Try.ntmps28
  go_wp2_with (go_at_call 65; ((with_reducible refine (nm_s HT.out hs _).mono ?_); rintro ee w4 ⟨rfl, rfl⟩))
  go_ret
  exact ⟨rfl, rfl⟩
set_option maxRecDepth 100000 in
theorem fnExactIsSubcircuitName_walk (s : ByteArray) (w : World) :
    Calls Try.prog 5 #[.string s] w fun ee w' => ee = .returned (.bool true) ∧ w = w' := by
  go_enter Try.func5, Try.ntmps5
  by_cases h : (1048576 : Int) < (s.size : Int)
  · go_wp2_with (fail)
    go_ret
    exact ⟨rfl, rfl⟩
  have hs : s.size ≤ 1048576 := by omega
  obtain ⟨t, ht⟩ : ∃ t : Bool, t = true ↔ isNm s := boolOf
  have HT := lay ht
  clear ht
  go_wp2_with (first | (go_at_call 28; ((with_reducible refine (nm_t HT.out hs _).mono ?_); rintro ee w4 ⟨rfl, rfl⟩)) | (go_at_call 29; ((with_reducible refine (nm_i HT.out hs _).mono ?_); rintro ee w5 ⟨rfl, rfl⟩)))
  go_ret
  exact ⟨rfl, rfl⟩
end Go.Proofs.Ytdbnjoeanoiifaa
