/- Blocks of local variables: known whole, kept over what a walk does. -/
import Derived.Test.YtofclfgaekjonaaDoorValid
import Derived.Test.YtofclfgaekjonaaDoorEn
namespace Go.Proofs.YtofclfgaekjonaaDoor
open Go.RowKit RM
set_option linter.unusedVariables false
set_option linter.unusedSimpArgs false
/-- block b is just these cells -/
def Bx (W : World) (b : Nat) (t : TypeId) (cs : Array Value) : Prop := W.heap[b]? = some (.cells cs t (0, 0))
theorem Bx.lt {W : World} {b : Nat} {t : TypeId} {cs : Array Value} (h : Bx W b t cs) : b < W.heap.size := (Array.getElem?_eq_some_iff.1 h).1
theorem Bx.c {W : World} {b : Nat} {t : TypeId} {cs : Array Value} (h : Bx W b t cs) (i : Nat) {v : Value} (hv : cs[i]? = some v) : W.cell? ⟨b, i, none⟩ = some v := (cell_of_row W b i cs t (0, 0) h).trans hv
theorem Bx.f {W : World} {b : Nat} {t : TypeId} {cs : Array Value} (h : Bx W b t cs) (i : Nat) : W.frozen? ⟨b, i, none⟩ = false := frozen_of_row W b i cs t h
theorem Bx.new {W : World} {b : Nat} {t : TypeId} {cs : Array Value} (hb : b = W.heap.size) : Bx (W.alloc (.cells cs t)) b t cs := by subst hb; exact heap_alloc_new W _
theorem Bx.alloc {W : World} {b : Nat} {t : TypeId} {cs : Array Value} (h : Bx W b t cs) (o : Obj) : Bx (W.alloc o) b t cs := (Below.heap_alloc W o b h.lt).trans h
theorem Bx.drew {W : World} {b : Nat} {t : TypeId} {cs : Array Value} (h : Bx W b t cs) : Bx W.drew b t cs := h
theorem Bx.drewN {W : World} {b : Nat} {t : TypeId} {cs : Array Value} (h : Bx W b t cs) (n : Nat) : Bx (W.drewN n) b t cs := h
theorem Bx.far {W : World} {b : Nat} {t : TypeId} {cs : Array Value} (h : Bx W b t cs) {g o : Nat} {u : Value} (hp : b ≠ g) : Bx (W.setCell ⟨g, o, none⟩ u) b t cs := (Below.heap_setCell W _ u b hp).trans h
theorem Bx.set {W : World} {b : Nat} {t : TypeId} {cs cs' : Array Value} {i : Nat} {u : Value} (h : Bx W b t cs) (hc : cs' = cs.setIfInBounds i u) : Bx (W.setCell ⟨b, i, none⟩ u) b t cs' := by
  rw [hc]; exact heap_setCell_same W b i cs t u h
theorem Bx.mono {W W' : World} {b : Nat} {t : TypeId} {cs : Array Value} (h : Bx W b t cs) (hb : Below W.heap.size W W') : Bx W' b t cs := (hb.block b h.lt).trans h
theorem Bx.below {W W' : World} {B b : Nat} {t : TypeId} {cs : Array Value} (h : Bx W b t cs) (hb : Below B W W') (hB : b < B) : Bx W' b t cs := (hb.block b hB).trans h
theorem Bx.grown {W W' : World} {b : Nat} {t : TypeId} {cs : Array Value} {row : Option Nat} (h : Bx W b t cs) (hg : W.grownBy W' row) (hne : some b ≠ row) : Bx W' b t cs := (hg.block b h.lt hne).trans h
/-- behind a call that may set the model's failure -/
theorem Bx.badly {W W' : World} {b g o : Nat} {u : Value} {t : TypeId} {cs : Array Value} (h : Bx W b t cs) (hb : Below W.heap.size (W.setCell ⟨g, o, none⟩ u) W') (hne : b ≠ g) : Bx W' b t cs := (hb.block b h.lt).trans (h.far hne)
theorem Bx.bad {W W' : World} {g : Nat} {u v : Value} {t : TypeId} (h : Bx W g t #[v]) (hb : Below W.heap.size (W.setCell ⟨g, 0, none⟩ u) W') : Bx W' g t #[u] := (hb.block g h.lt).trans (h.set (cs' := #[u]) rfl)
end Go.Proofs.YtofclfgaekjonaaDoor
