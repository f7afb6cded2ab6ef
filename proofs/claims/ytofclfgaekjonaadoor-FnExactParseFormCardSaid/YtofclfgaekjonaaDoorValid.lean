/- Contracts of the two tests of validity, and of what they call. -/
import Derived.Test.YtofclfgaekjonaaDoorProg
import Derived.Test.YtofclfgaekjonaaDoorMath
import Derived.Handy
import Derived.LoopTactic

namespace Go.Proofs.YtofclfgaekjonaaDoor
open Go.RowKit RM
set_option linter.unusedVariables false

/-- behind a call: the old cells and marks read as before, nothing has gone -/
theorem bcell {W w1 : World} (hb : Below W.heap.size W w1) : (∀ b o, b < W.heap.size → w1.cell? ⟨b, o, none⟩ = W.cell? ⟨b, o, none⟩) ∧ (∀ b o, b < W.heap.size → w1.frozen? ⟨b, o, none⟩ = W.frozen? ⟨b, o, none⟩) ∧ W.heap.size ≤ w1.heap.size :=
  ⟨fun b o h => hb.cell (p := ⟨b, o, none⟩) h, fun b o h => hb.frozen (p := ⟨b, o, none⟩) h, hb.size⟩
theorem chain {B C : Nat} {w a b : World} (h : Below B w a) (k : Below C a b) (hB : B ≤ C) : Below B w b := h.trans (k.mono hB)
/-- behind a call in a region: a cell, a mark, and what lay below, as they were at the region's head -/
theorem rd_cell {w0 a b : World} {k o : Nat} {v : Value} (hb : Below a.heap.size a b) (h : a.cell? ⟨k, o, none⟩ = some v) (hO : Below w0.heap.size w0 a) (hk : k < w0.heap.size) : b.cell? ⟨k, o, none⟩ = some v :=
  ((bcell hb).1 k o (Nat.lt_of_lt_of_le hk hO.size)).trans h
theorem rd_frozen {w0 a b : World} {k o : Nat} (hb : Below a.heap.size a b) (h : a.frozen? ⟨k, o, none⟩ = false) (hO : Below w0.heap.size w0 a) (hk : k < w0.heap.size) : b.frozen? ⟨k, o, none⟩ = false :=
  ((bcell hb).2.1 k o (Nat.lt_of_lt_of_le hk hO.size)).trans h
theorem rd_below {w0 a b : World} (hb : Below a.heap.size a b) (hO : Below w0.heap.size w0 a) : Below w0.heap.size w0 b := chain hO hb hO.size
/-- a fact kept from the walk -/
theorem hid {p : Prop} (h : p) : Hid p := h
/-- the value of a number of the ring -/
abbrev rg (a b c d : Int) : Value := .agg #[.int .i64 a, .int .i64 b, .int .i64 c, .int .i64 d]

set_option maxRecDepth 100000 in
set_option maxHeartbeats 1000000 in
theorem lg_t (a b c d : Int) (w : World) (h : vr a b c d = true) :
    Calls Tryd.prog 120 #[rg a b c d] w fun e w' => e = .returned (.bool true) ∧ Below w.heap.size w w' := by
  obtain ⟨⟨a1, a2⟩, ⟨b1, b2⟩, ⟨c1, c2⟩, ⟨d1, d2⟩⟩ := vr_iff.1 h
  clear h
  go_enter Tryd.func120, Tryd.ntmps120
  go_wp2
  go_rounds 5
  go_ret
  exact ⟨rfl, by go_grown⟩

set_option maxRecDepth 100000 in
set_option maxHeartbeats 1000000 in
theorem lg_f (a b c d : Int) (w : World) (h : vr a b c d = false) :
    Calls Tryd.prog 120 #[rg a b c d] w fun e w' => e = .returned (.bool false) ∧ Below w.heap.size w w' := by
  have hn : ¬ _ := fun k => by rw [vr_iff.2 k] at h; cases h
  clear h
  have HN := hid hn
  clear hn
  go_enter Tryd.func120, Tryd.ntmps120
  go_wp2
  go_rounds 5
  all_goals (go_ret; refine ⟨?_, by go_grown⟩)
  all_goals (first | rfl | (exfalso; refine HN.out ?_; simp only [Bool.not_eq_false', decide_eq_true_eq] at *; exact ⟨⟨by omega, by omega⟩, ⟨by omega, by omega⟩, ⟨by omega, by omega⟩, ⟨by omega, by omega⟩⟩))
end Go.Proofs.YtofclfgaekjonaaDoor
