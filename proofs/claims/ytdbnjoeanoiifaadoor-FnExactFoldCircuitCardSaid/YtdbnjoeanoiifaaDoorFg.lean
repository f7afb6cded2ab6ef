/- Small contracts for a gate's text. -/
import Derived.Test.YtdbnjoeanoiifaaDoorGa
import Derived.Laws.IdiomStrings
import Derived.Laws.Concat
import Derived.Deep.RegionHeld3
namespace Go.Proofs.YtdbnjoeanoiifaaDoor
open Go.RowKit
set_option linter.unusedVariables false
set_option linter.unusedSimpArgs false
attribute [local irreducible] World.setCell

/-- a gate's name -/
def gnm : Nat → ByteArray
  | 0 => ⟨#[]⟩
  | 1 => ⟨#[72]⟩
  | 2 => ⟨#[88]⟩
  | 3 => ⟨#[89]⟩
  | 4 => ⟨#[90]⟩
  | 5 => ⟨#[83]⟩
  | 6 => ⟨#[83, 39]⟩
  | 7 => ⟨#[84]⟩
  | 8 => ⟨#[84, 39]⟩
  | 9 => ⟨#[67, 88]⟩
  | 10 => ⟨#[67, 90]⟩
  | 11 => ⟨#[83, 87, 65, 80]⟩
  | 12 => ⟨#[87]⟩
  | _ => ⟨#[]⟩
/-- a digit -/
def dgt (q : Nat) : ByteArray := ⟨#[UInt8.ofNat (48 + q)]⟩
theorem dgt_size (q : Nat) : (dgt q).size = 1 := rfl
theorem gnm_size (k : Nat) : (gnm k).size ≤ 4 := by
  unfold gnm
  split <;> decide
set_option maxRecDepth 100000 in
set_option maxHeartbeats 1000000 in
theorem sml {q : Nat} (h : q ≤ 9) (w : World) :
    Calls Tryd.prog 98 #[.int .i64 (q : Int)] w fun ee w' => ee = .returned (.string (dgt q)) ∧ Below w.heap.size w w' := by
  obtain rfl | rfl | rfl | rfl | rfl | rfl | rfl | rfl | rfl | rfl : q = 0 ∨ q = 1 ∨ q = 2 ∨ q = 3 ∨ q = 4 ∨ q = 5 ∨ q = 6 ∨ q = 7 ∨ q = 8 ∨ q = 9 := by omega
  all_goals
    go_enter Tryd.func98, Tryd.ntmps98
    go_wp2_with (fail)
    go_ret
    exact ⟨rfl, Below.refl _ _⟩

set_option maxRecDepth 100000 in
set_option maxHeartbeats 1000000 in
theorem fmi {q : Nat} (h : q ≤ 9) (w : World) :
    Calls Tryd.prog 80 #[.int .i64 (q : Int), .int .i64 10] w fun ee w' => ee = .returned (.string (dgt q)) ∧ Below w.heap.size w w' := by
  have h0 : (0 : Int) ≤ (q : Int) := by omega
  have h1 : (q : Int) < 100 := by omega
  go_enter Tryd.func80, Tryd.ntmps80
  go_wp2_with (go_at_call 98; ((with_reducible refine (sml h _).mono ?_); rintro ee w1 ⟨rfl, hb1⟩))
  go_ret
  exact ⟨rfl, hb1⟩

set_option maxRecDepth 100000 in
set_option maxHeartbeats 1000000 in
theorem ito {q : Nat} (h : q ≤ 9) (w : World) :
    Calls Tryd.prog 56 #[.int .i64 (q : Int)] w fun ee w' => ee = .returned (.string (dgt q)) ∧ Below w.heap.size w w' := by
  go_enter Tryd.func56, Tryd.ntmps56
  go_wp2_with (go_at_call 80; ((with_reducible refine (fmi h _).mono ?_); rintro ee w1 ⟨rfl, hb1⟩))
  go_ret
  exact ⟨rfl, hb1⟩

set_option maxRecDepth 100000 in
set_option maxHeartbeats 1000000 in
theorem itoa {q : Nat} (h : q ≤ 9) (w : World) :
    Calls Tryd.prog 28 #[.int .i64 (q : Int)] w fun ee w' => ee = .returned (.string (dgt q)) ∧ Below w.heap.size w w' := by
  go_enter Tryd.func28, Tryd.ntmps28
  go_wp2_with (go_at_call 56; ((with_reducible refine (ito h _).mono ?_); rintro ee w1 ⟨rfl, hb1⟩))
  go_ret
  exact ⟨rfl, hb1⟩

theorem cv1 (w : World) (g : Nat) (y : Int) (h0 : 0 ≤ y) (h1 : y < 256) (hc : w.cell? ⟨g, 0, none⟩ = some (.int .u8 y)) :
    (convert 22 9 (.slice (some ⟨g, 0, none⟩) 1 1)).run Tryd.prog w = .ok (.string ⟨#[UInt8.ofNat y.toNat]⟩) w := by
  have hy : ((UInt8.ofNat y.toNat).toNat : Int) = y := by simp; omega
  exact run_convert_bytes_back w 22 9 5 ⟨g, 0, none⟩ 1 [UInt8.ofNat y.toNat] Tryd.underlying22 Tryd.underlying5 Tryd.underlying9 (by
    intro j hj
    have : j = 0 := by simpa using hj
    subst this
    simp [Addr.add, hc]; omega)
set_option maxRecDepth 100000 in
set_option maxHeartbeats 1000000 in
theorem nums {q : Nat} (h : q ≤ 9) (w : World) :
    Calls Tryd.prog 52 #[.int .i64 (q : Int)] w fun ee w' => ee = .returned (.string (dgt q)) ∧ Below w.heap.size w w' := by
  have hz : dgt q = ⟨#[UInt8.ofNat (48 + (q : Int)).toNat]⟩ := by
    have : (48 + (q : Int)).toNat = 48 + q := by omega
    rw [this]; rfl
  rw [hz]
  have kb := fun (w : World) => cv1 (w.alloc (.cells #[.int .u8 (48 + (q : Int))] 5)) w.heap.size (48 + (q : Int)) (by omega) (by omega) (by simp)
  generalize (⟨#[UInt8.ofNat (48 + (q : Int)).toNat]⟩ : ByteArray) = Z at *
  clear hz
  go_enter Tryd.func52, Tryd.ntmps52
  go_wp2
  refine bodyPost_ret (v := .string Z) (by simp [results, Tryd.results52, go_sem, *]) rfl ⟨rfl, ?_⟩
  (repeat' (first | (with_reducible exact Below.refl _ _) | (with_reducible assumption) | (with_reducible refine Below.alloc ?_ ?_ _) | (with_reducible refine Below.drew ?_) | (with_reducible refine bdN ?_ _) | (with_reducible refine Below.setCell ?_ ?_ _) | (with_reducible refine chn ?_ (by assumption) ?_) | omega | (simp; done) | (simp; omega)))

set_option maxRecDepth 100000 in
set_option maxHeartbeats 4000000 in
theorem lnm {k : Nat} (h1 : 1 ≤ k) (h2 : k ≤ 12) (w : World) :
    Calls Tryd.prog 78 #[.int .i64 (k : Int)] w fun ee w' => ee = .returned (.string (gnm k)) ∧ Below w.heap.size w w' := by
  obtain rfl | rfl | rfl | rfl | rfl | rfl | rfl | rfl | rfl | rfl | rfl | rfl : k = 1 ∨ k = 2 ∨ k = 3 ∨ k = 4 ∨ k = 5 ∨ k = 6 ∨ k = 7 ∨ k = 8 ∨ k = 9 ∨ k = 10 ∨ k = 11 ∨ k = 12 := by omega
  all_goals
    go_enter Tryd.func78, Tryd.ntmps78
    go_wp2_with (fail)
    go_ret
    exact ⟨rfl, (Below.refl _ _).alloc (Nat.le_refl _) _⟩

end Go.Proofs.YtdbnjoeanoiifaaDoor
