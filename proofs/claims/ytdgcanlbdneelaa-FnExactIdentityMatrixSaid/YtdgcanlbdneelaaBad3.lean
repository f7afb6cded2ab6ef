/- What the model's functions of matrices remember of a failure. -/
import Derived.Test.YtdgcanlbdneelaaCol
import Derived.Test.YtdgcanlbdneelaaMxA
namespace Go.Proofs.Ytdgcanlbdneelaa
open Go.RowKit RM
set_option linter.unusedVariables false
set_option linter.unusedSimpArgs false
attribute [local irreducible] World.setCell

/-- does any of the first j fail? -/
def anyB (j : Nat) (G : Nat → Bool) : Bool := (List.range j).any G
theorem anyB_0 (G : Nat → Bool) : anyB 0 G = false := rfl
theorem anyB_succ (j : Nat) (G : Nat → Bool) : anyB (j + 1) G = (anyB j G || G j) := by
  unfold anyB; rw [List.range_succ, List.any_append]; simp
theorem anyB_get {j q : Nat} {G : Nat → Bool} (h : anyB j G = false) (hq : q < j) : G q = false := by
  unfold anyB at h
  have := List.any_eq_false.1 h q (List.mem_range.2 hq)
  simpa using this
theorem anyB_of {j q : Nat} {G : Nat → Bool} (hq : q < j) (h : G q = true) : anyB j G = true := by
  cases hh : anyB j G
  · rw [anyB_get hh hq] at h; cases h
  · rfl
theorem anyB_f {j : Nat} {G : Nat → Bool} (h : ∀ q, q < j → G q = false) : anyB j G = false := by
  cases hh : anyB j G
  · rfl
  · unfold anyB at hh
    obtain ⟨q, hq, hg⟩ := List.any_eq_true.1 hh
    rw [h q (List.mem_range.1 hq)] at hg; cases hg
theorem anyB_congr {j : Nat} {G H : Nat → Bool} (h : ∀ q, q < j → G q = H q) : anyB j G = anyB j H := by
  cases hh : anyB j H
  · exact anyB_f (fun q hq => by rw [h q hq]; exact anyB_get hh hq)
  · cases hg : anyB j G
    · rw [anyB_f (fun q hq => by rw [← h q hq]; exact anyB_get hg hq)] at hh; cases hh
    · rfl
/-- what a model's function of matrices answers: nothing if a computation failed -/
def MR (w w' : World) (ee : Ending) (r c : Int) (n : Nat) (zs : List D5) (bad : Bool) : Prop :=
  (bad = true → ee = .returned (mt 0 0 none 0 0 false)) ∧ (bad = false → ∃ B cq, ee = .returned (mt r c B n cq true) ∧ Rd w' B zs ∧ (∀ a, B = some a → w.heap.size ≤ a.block)) ∧ Below w.heap.size w w'
/-- the state of a loop that appends what may fail: the failure so far, the numbers so far -/
def Sofar (z : Bool) (zs : List D5) (j : Nat) (F : Nat → D5) (G : Nat → Bool) : Prop := zs.length = j ∧ z = anyB j G ∧ (z = false → zs = tab j F)
theorem Sofar.start (F : Nat → D5) (G : Nat → Bool) : Sofar false [] 0 F G := ⟨rfl, rfl, fun _ => rfl⟩
theorem Sofar.next {z : Bool} {zs : List D5} {j : Nat} {F : Nat → D5} {G : Nat → Bool} {r : D5 × Bool} (h : Sofar z zs j F G) (h1 : z = false → r = (F j, G j)) (h2 : z = true → r.2 = true) : Sofar r.2 (zs ++ [r.1]) (j + 1) F G := by
  obtain ⟨hl, hz, hs⟩ := h
  refine ⟨by simp [hl], ?_, ?_⟩
  · rw [anyB_succ, ← hz]
    cases z
    · rw [h1 rfl]; rfl
    · rw [h2 rfl]; rfl
  · intro hr
    cases z
    · rw [h1 rfl, tab_succ, hs rfl]
    · rw [h2 rfl] at hr; cases hr
theorem kbad {a b : World} {g o k i : Nat} {u v : Value} (hb : Below a.heap.size (a.setCell ⟨g, o, none⟩ u) b) (hne : g ≠ k) (h : a.cell? ⟨k, i, none⟩ = some v) : b.cell? ⟨k, i, none⟩ = some v := by
  have h1 : (a.setCell ⟨g, o, none⟩ u).cell? ⟨k, i, none⟩ = some v := by rw [World.cell?_setCell_far _ _ _ _ hne, h]
  exact (hb.cell (p := ⟨k, i, none⟩) (World.block_lt_of_cell? a _ h)).trans h1
theorem Own5.badly {W W' : World} {base g o : Nat} {t : TypeId} {v u : Value} {xs : List D5} (h : Own5 W base t v xs) (hb : Below W.heap.size (W.setCell ⟨g, o, none⟩ u) W') (hg : g < base) : Own5 W' base t v xs :=
  (h.far (p := ⟨g, o, none⟩) hg u).mono (by rw [World.size_setCell]; exact hb)
theorem bad_below {W W' w : World} {g o : Nat} {u : Value} (hB : Below w.heap.size w W) (hb : Below W.heap.size (W.setCell ⟨g, o, none⟩ u) W') (hg : w.heap.size ≤ g) : Below w.heap.size w W' :=
  chain (hB.setCell (p := ⟨g, o, none⟩) hg u) hb hB.size
theorem bad_size {W W' : World} {g o : Nat} {u : Value} (hb : Below W.heap.size (W.setCell ⟨g, o, none⟩ u) W') : W.heap.size ≤ W'.heap.size := by
  have := hb.size; rwa [World.size_setCell] at this
theorem bad_drew {W W' : World} {g o : Nat} {u : Value} (hb : Below W.drew.heap.size (W.drew.setCell ⟨g, o, none⟩ u) W') : Below W.heap.size (W.setCell ⟨g, o, none⟩ u) W' := by
  rw [World.setCell_drew] at hb
  exact ⟨hb.os, hb.tape, hb.output, hb.size, hb.block⟩

set_option maxRecDepth 100000 in
set_option maxHeartbeats 2000000 in
theorem cmat_t {r c : Int} {A : Option Addr} {n cp g : Nat} {w : World} (h0 : w.cell? ⟨g, 0, none⟩ = some (.bool true)) :
    Calls Try.prog 59 #[.pointer (some ⟨g, 0, none⟩), mv r c A n cp] w fun ee w' => ee = .returned (mt 0 0 none 0 0 false) ∧ Below w.heap.size w w' := by
  have hg := World.block_lt_of_cell? w _ h0
  have hg1 : g < w.heap.size := hg
  have hg2 : g < w.heap.size + 1 := by omega
  go_enter Try.func59, Try.ntmps59
  go_wp2_with (fail)
  refine bodyPost_ret (v := mt 0 0 none 0 0 false) (by first | (simp [results, Try.results59, go_sem, *]; done) | (simp (disch := (first | omega | (simp; done) | (simp; omega))) [results, Try.results59, go_sem, *]; done) | (simp only [results, Try.results59]; go_simp; done)) rfl ⟨rfl, ?_⟩
  (repeat' (first | (with_reducible exact Below.refl _ _) | (with_reducible assumption) | (with_reducible refine Below.alloc ?_ ?_ _) | (with_reducible refine Below.drew ?_) | (with_reducible refine below_drewN ?_ _) | (with_reducible refine Below.setCell ?_ ?_ _) | (with_reducible refine chain ?_ (by assumption) ?_) | omega | (simp; done) | (simp; omega)))

set_option maxRecDepth 100000 in
set_option maxHeartbeats 2000000 in
theorem cmat_f {r c : Int} {A : Option Addr} {n cp g : Nat} {w : World} (h0 : w.cell? ⟨g, 0, none⟩ = some (.bool false)) :
    Calls Try.prog 59 #[.pointer (some ⟨g, 0, none⟩), mv r c A n cp] w fun ee w' => ee = .returned (mt r c A n cp true) ∧ Below w.heap.size w w' := by
  have hg := World.block_lt_of_cell? w _ h0
  have hg1 : g < w.heap.size := hg
  have hg2 : g < w.heap.size + 1 := by omega
  go_enter Try.func59, Try.ntmps59
  go_wp2_with (fail)
  refine bodyPost_ret (v := mt r c A n cp true) (by first | (simp [results, Try.results59, go_sem, *]; done) | (simp (disch := (first | omega | (simp; done) | (simp; omega))) [results, Try.results59, go_sem, *]; done) | (simp only [results, Try.results59]; go_simp; done)) rfl ⟨rfl, ?_⟩
  (repeat' (first | (with_reducible exact Below.refl _ _) | (with_reducible assumption) | (with_reducible refine Below.alloc ?_ ?_ _) | (with_reducible refine Below.drew ?_) | (with_reducible refine below_drewN ?_ _) | (with_reducible refine Below.setCell ?_ ?_ _) | (with_reducible refine chain ?_ (by assumption) ?_) | omega | (simp; done) | (simp; omega)))

end Go.Proofs.Ytdgcanlbdneelaa
