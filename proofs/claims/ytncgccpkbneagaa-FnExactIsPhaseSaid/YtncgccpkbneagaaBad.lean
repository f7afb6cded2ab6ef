/- The model's memory of a failure: one cell that is set; laws of worlds that differ in it. -/
import Derived.Test.YtncgccpkbneagaaZlow
namespace Go.Proofs.Ytncgccpkbneagaa
open Go.RowKit RM
set_option linter.unusedVariables false
set_option linter.unusedSimpArgs false
theorem setCell_self {w : World} {b o : Nat} {v : Value} (h : w.cell? ⟨b, o, none⟩ = some v) : w.setCell ⟨b, o, none⟩ v = w := by
  unfold World.setCell
  have : w.heap.modify b (fun | .cells c elem frozen => .cells (if (none : Option Nat).isSome then c else c.setIfInBounds o v) elem frozen | x => x) = w.heap := by
    apply Array.ext_getElem?
    intro i
    rw [Array.getElem?_modify]
    split
    · rename_i hi
      subst hi
      unfold World.cell? at h
      split at h
      · rename_i c el fr hc
        rw [hc]
        simp at h ⊢
        apply Array.ext_getElem?
        intro j
        rw [Array.getElem?_setIfInBounds]
        split
        · rename_i hj
          subst hj
          rw [h]
          split
          · rfl
          · rename_i hn
            exfalso
            exact hn (Array.getElem?_eq_some_iff.1 h).1
        · rfl
      · cases h
    · rfl
  exact congrArg (fun h => ({ w with heap := h } : World)) this
theorem setCell_twice (w : World) (b o : Nat) (u v : Value) : (w.setCell ⟨b, o, none⟩ u).setCell ⟨b, o, none⟩ v = w.setCell ⟨b, o, none⟩ v := by
  unfold World.setCell
  have : ((w.heap.modify b fun | .cells c elem frozen => .cells (if (none : Option Nat).isSome then c else c.setIfInBounds o u) elem frozen | x => x).modify b fun | .cells c elem frozen => .cells (if (none : Option Nat).isSome then c else c.setIfInBounds o v) elem frozen | x => x) = w.heap.modify b (fun | .cells c elem frozen => .cells (if (none : Option Nat).isSome then c else c.setIfInBounds o v) elem frozen | x => x) := by
    apply Array.ext_getElem?
    intro i
    simp only [Array.getElem?_modify]
    split
    · cases w.heap[i]? with
      | none => rfl
      | some x => cases x <;> simp
    · rfl
  show ({ w with heap := _ } : World) = { w with heap := _ }
  exact congrArg (fun h => ({ w with heap := h } : World)) this
theorem both {B : Nat} {w a : World} (h : Below B w a) (b o : Nat) (hp : b < B) (u : Value) : Below B (w.setCell ⟨b, o, none⟩ u) (a.setCell ⟨b, o, none⟩ u) := by
  refine ⟨h.os, h.tape, h.output, by have := h.size; simpa using this, fun k hk => ?_⟩
  by_cases hk2 : k = b
  · subst hk2
    have := h.block k hk
    simp only [World.setCell, Array.getElem?_modify, if_true, this]
  · rw [Below.heap_setCell _ _ _ _ hk2, Below.heap_setCell _ _ _ _ hk2, h.block k hk]
/-- the failure is set (again) behind some steps -/
theorem bad_step {B : Nat} {w a c : World} {b o : Nat} {u v : Value} (h : Below B (w.setCell ⟨b, o, none⟩ u) a) (hb : b < B) (h2 : Below a.heap.size (a.setCell ⟨b, o, none⟩ v) c) (hB : B ≤ a.heap.size) : Below B (w.setCell ⟨b, o, none⟩ v) c := by
  have h1 := both h b o hb v
  rw [setCell_twice] at h1
  exact h1.trans (h2.mono hB)
theorem bad_0 {B : Nat} {w : World} {b o : Nat} {u : Value} (h : w.cell? ⟨b, o, none⟩ = some u) : Below B (w.setCell ⟨b, o, none⟩ u) w := by
  rw [setCell_self h]; exact Below.refl _ _
theorem chain2 {B : Nat} {u a b : World} (h : Below B u a) (k : Below a.heap.size a b) (hB : B ≤ a.heap.size) : Below B u b := chain h k hB
end Go.Proofs.Ytncgccpkbneagaa
