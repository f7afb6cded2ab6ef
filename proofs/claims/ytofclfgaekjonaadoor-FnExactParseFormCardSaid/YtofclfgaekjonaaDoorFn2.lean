/- Numbers below 24; the first text that is not empty. -/
import Derived.Test.YtofclfgaekjonaaDoorVh
namespace Go.Proofs.YtofclfgaekjonaaDoor
open Go.RowKit RM
set_option linter.unusedVariables false
set_option linter.unusedSimpArgs false
attribute [local irreducible] World.setCell

/-- a number below 100 -/
def dg2 (q : Nat) : ByteArray := if q < 10 then ⟨#[UInt8.ofNat (48 + q)]⟩ else ⟨#[UInt8.ofNat (48 + q / 10), UInt8.ofNat (48 + q % 10)]⟩
theorem dg2_size {q : Nat} : (dg2 q).size ≤ 2 := by
  unfold dg2
  split
  · exact (by decide : 1 ≤ 2)
  · exact (by decide : 2 ≤ 2)
theorem tl0 {s : ByteArray} (h : ¬ (s = ByteArray.mk #[])) : (!s.toList.isEmpty) = true := by
  have : s.toList.isEmpty = false := by
    rcases hb : s.toList.isEmpty with _ | _
    · rfl
    · exfalso
      apply h
      have h1 : s.toList = [] := by simpa using hb
      rw [Go.ByteArray.toList_eq] at h1
      rcases s with ⟨⟨l⟩⟩
      have h2 : l = [] := h1
      rw [h2]
  rw [this]; rfl
set_option maxRecDepth 100000 in
set_option maxHeartbeats 4000000 in
theorem sml2 {q : Nat} (h : q ≤ 23) (w : World) :
    Calls Tryd.prog 90 #[.int .i64 (q : Int)] w fun ee w' => ee = .returned (.string (dg2 q)) ∧ w = w' := by
  have hc : q = 0 ∨ q = 1 ∨ q = 2 ∨ q = 3 ∨ q = 4 ∨ q = 5 ∨ q = 6 ∨ q = 7 ∨ q = 8 ∨ q = 9 ∨ q = 10 ∨ q = 11 ∨ q = 12 ∨ q = 13 ∨ q = 14 ∨ q = 15 ∨ q = 16 ∨ q = 17 ∨ q = 18 ∨ q = 19 ∨ q = 20 ∨ q = 21 ∨ q = 22 ∨ q = 23 := by omega
  rcases hc with rfl | rfl | rfl | rfl | rfl | rfl | rfl | rfl | rfl | rfl | rfl | rfl | rfl | rfl | rfl | rfl | rfl | rfl | rfl | rfl | rfl | rfl | rfl | rfl
  all_goals
    go_enter Tryd.func90, Tryd.ntmps90
    go_wp2_with (fail)
    go_ret
    exact ⟨by with_unfolding_all rfl, rfl⟩

set_option maxRecDepth 100000 in
set_option maxHeartbeats 4000000 in
theorem fmi2 {q : Nat} (h : q ≤ 23) (w : World) :
    Calls Tryd.prog 69 #[.int .i64 (q : Int), .int .i64 10] w fun ee w' => ee = .returned (.string (dg2 q)) ∧ w = w' := by
  have h0 : (0 : Int) ≤ (q : Int) := by omega
  have h1 : (q : Int) < 100 := by omega
  go_enter Tryd.func69, Tryd.ntmps69
  go_wp2_with ((go_at_call 90; ((with_reducible refine (sml2 h _).mono ?_); rintro ee w1 ⟨rfl, rfl⟩)))
  go_ret
  exact ⟨rfl, rfl⟩

set_option maxRecDepth 100000 in
set_option maxHeartbeats 4000000 in
theorem ito2 {q : Nat} (h : q ≤ 23) (w : World) :
    Calls Tryd.prog 51 #[.int .i64 (q : Int)] w fun ee w' => ee = .returned (.string (dg2 q)) ∧ w = w' := by
  go_enter Tryd.func51, Tryd.ntmps51
  go_wp2_with ((go_at_call 69; ((with_reducible refine (fmi2 h _).mono ?_); rintro ee w1 ⟨rfl, rfl⟩)))
  go_ret
  exact ⟨rfl, rfl⟩

set_option maxRecDepth 100000 in
set_option maxHeartbeats 4000000 in
theorem itoa2 {q : Nat} (h : q ≤ 23) (w : World) :
    Calls Tryd.prog 30 #[.int .i64 (q : Int)] w fun ee w' => ee = .returned (.string (dg2 q)) ∧ w = w' := by
  go_enter Tryd.func30, Tryd.ntmps30
  go_wp2_with ((go_at_call 51; ((with_reducible refine (ito2 h _).mono ?_); rintro ee w1 ⟨rfl, rfl⟩)))
  go_ret
  exact ⟨rfl, rfl⟩

/-- the first of two that is not empty -/
def orS (s : ByteArray) : ByteArray := if s = ByteArray.mk #[] then ByteArray.mk #[45] else s
set_option maxRecDepth 100000 in
set_option maxHeartbeats 4000000 in
theorem cor0 {s : ByteArray} {g : Nat} {w : World} (h : ¬ (s = ByteArray.mk #[])) (c0 : w.cell? ⟨g, 0, none⟩ = some (.string s)) (c1 : w.cell? ⟨g, 1, none⟩ = some (.string (ByteArray.mk #[45]))) :
    Calls Tryd.prog 29 #[.slice (some ⟨g, 0, none⟩) 2 2] w fun ee w' => ee = .returned (.string s) ∧ w = w' := by
  have h2 := tl0 h
  go_enter Tryd.func29, Tryd.ntmps29
  go_wp2_with (fail)
  go_loopg [8] 2 (fun g9 s8 wr => ∃ j : Nat, j + g9 = 2 ∧ s8 = .int .i64 (j : Int) ∧ j = 0 ∧ w = wr)
  case atStart => exact ⟨0, rfl, rfl, by omega, rfl⟩
  case round =>
    obtain ⟨j, hj, rfl, hjz, rfl⟩ := hrel
    obtain rfl := hjz
    go_wp2_with (fail)
    go_ret
    exact ⟨rfl, rfl⟩
set_option maxRecDepth 100000 in
set_option maxHeartbeats 4000000 in
theorem cor1 {s : ByteArray} {g : Nat} {w : World} (h : s = ByteArray.mk #[]) (c0 : w.cell? ⟨g, 0, none⟩ = some (.string s)) (c1 : w.cell? ⟨g, 1, none⟩ = some (.string (ByteArray.mk #[45]))) :
    Calls Tryd.prog 29 #[.slice (some ⟨g, 0, none⟩) 2 2] w fun ee w' => ee = .returned (.string (ByteArray.mk #[45])) ∧ w = w' := by
  subst h
  go_enter Tryd.func29, Tryd.ntmps29
  go_wp2_with (fail)
  go_loopg [8] 2 (fun g9 s8 wr => ∃ j : Nat, j + g9 = 2 ∧ s8 = .int .i64 (j : Int) ∧ j ≤ 1 ∧ w = wr)
  case atStart => exact ⟨0, rfl, rfl, by omega, rfl⟩
  case round =>
    obtain ⟨j, hj, rfl, hjz, rfl⟩ := hrel
    rcases (show j = 0 ∨ j = 1 by omega) with h | h
    · subst h
      go_wp2_with (fail)
      go_roundg 1
      case measure => omega
      case rel => exact ⟨1, rfl, rfl, by omega, rfl⟩
    · subst h
      go_wp2_with (fail)
      go_ret
      exact ⟨rfl, rfl⟩

end Go.Proofs.YtofclfgaekjonaaDoor
