/- Bx, Ro -/
import Derived.Test.YtncgccpkbneagaaZtab
import Derived.Test.YtncgccpkbneagaaVm2
import Derived.Test.YtncgccpkbneagaaZhld
import Derived.BigQuiet
import Derived.Deep.QuietTactic
import Derived.IntWalk
namespace Go.Proofs.Ytncgccpkbneagaa
open Go.RowKit RM
set_option linter.unusedVariables false
set_option linter.unusedSimpArgs false
/-- block b is just these cells -/
def Bx (W : World) (b : Nat) (t : TypeId) (cs : Array Value) : Prop := W.heap[b]? = some (.cells cs t (0, 0))
theorem Bx.lt {W : World} {b : Nat} {t : TypeId} {cs : Array Value} (h : Bx W b t cs) : b < W.heap.size := (Array.getElem?_eq_some_iff.1 h).1
theorem Bx.c {W : World} {b : Nat} {t : TypeId} {cs : Array Value} (h : Bx W b t cs) (i : Nat) {v : Value} (hv : cs[i]? = some v) : W.cell? ⟨b, i, none⟩ = some v := (cell_of_row W b i cs t (0, 0) h).trans hv
theorem Bx.f {W : World} {b : Nat} {t : TypeId} {cs : Array Value} (h : Bx W b t cs) (i : Nat) : W.frozen? ⟨b, i, none⟩ = false := frozen_of_row W b i cs t h
theorem Bx.new {W : World} {b : Nat} {t : TypeId} {cs : Array Value} (hb : b = W.heap.size) : Bx (W.alloc (.cells cs t)) b t cs := by subst hb; exact heap_alloc_new W _
theorem Bx.alloc {W : World} {b : Nat} {t : TypeId} {cs : Array Value} (h : Bx W b t cs) (o : Obj) : Bx (W.alloc o) b t cs := (Below.heap_alloc W o b h.lt).trans h
theorem Bx.drew {W : World} {b : Nat} {t : TypeId} {cs : Array Value} (h : Bx W b t cs) : Bx W.drew b t cs := h
theorem Bx.drewN {W : World} {b : Nat} {t : TypeId} {cs : Array Value} (h : Bx W b t cs) (n : Nat) : Bx (W.drewN n) b t cs := h
theorem Bx.far {W : World} {b : Nat} {t : TypeId} {cs : Array Value} (h : Bx W b t cs) {g o : Nat} {u : Value} (hp : b ≠ g) : Bx (W.setCell ⟨g, o, none⟩ u) b t cs := (Below.heap_setCell W _ u b hp).trans h
theorem Bx.set {W : World} {b : Nat} {t : TypeId} {cs cs' : Array Value} {i : Nat} {u : Value} (h : Bx W b t cs) (hc : cs' = cs.setIfInBounds i u) : Bx (W.setCell ⟨b, i, none⟩ u) b t cs' := by
  rw [hc]; exact heap_setCell_same W b i cs t u h
theorem Bx.mono {W W' : World} {b : Nat} {t : TypeId} {cs : Array Value} (h : Bx W b t cs) (hb : Below W.heap.size W W') : Bx W' b t cs := (hb.block b h.lt).trans h
theorem Bx.below {W W' : World} {B b : Nat} {t : TypeId} {cs : Array Value} (h : Bx W b t cs) (hb : Below B W W') (hB : b < B) : Bx W' b t cs := (hb.block b hB).trans h
theorem Bx.grown {W W' : World} {b : Nat} {t : TypeId} {cs : Array Value} {row : Option Nat} (h : Bx W b t cs) (hg : W.grownBy W' row) (hne : some b ≠ row) : Bx W' b t cs := (hg.block b h.lt hne).trans h
/-- behind a call that may set the model's failure -/
theorem Bx.badly {W W' : World} {b g o : Nat} {u : Value} {t : TypeId} {cs : Array Value} (h : Bx W b t cs) (hb : Below W.heap.size (W.setCell ⟨g, o, none⟩ u) W') (hne : b ≠ g) : Bx W' b t cs := (hb.block b h.lt).trans (h.far hne)
theorem Bx.bad {W W' : World} {g : Nat} {u v : Value} {t : TypeId} (h : Bx W g t #[v]) (hb : Below W.heap.size (W.setCell ⟨g, 0, none⟩ u) W') : Bx W' g t #[u] := (hb.block g h.lt).trans (h.set (cs' := #[u]) rfl)
end Go.Proofs.Ytncgccpkbneagaa
namespace Go.Proofs.Ytncgccpkbneagaa
open Go.RowKit RM
set_option linter.unusedVariables false
set_option linter.unusedSimpArgs false
attribute [local irreducible] World.setCell

set_option maxRecDepth 100000 in
set_option maxHeartbeats 4000000 in
theorem rw_i {r : Int} {C i s g n cp : Nat} {w : World} (hs : (i : Int) * (C : Int) = (s : Int)) (he : ((i : Int) + 1) * (C : Int) = ((s + C : Nat) : Int)) (h1 : s + C ≤ cp) (h2 : cp ≤ 1048576) (h3 : 1 ≤ C) (h4 : i ≤ 1048576) :
    Calls Try.prog 71 #[mv r C (some ⟨g, 0, none⟩) n cp, .int .i64 (i : Int)] w fun ee w' => ee = .returned (.slice (some ⟨g, s * 5, none⟩) C C) ∧ Below w.heap.size w w' := by
  have b0 : (s : Int) + C ≤ cp := by omega
  have b1 : (cp : Int) ≤ 1048576 := by omega
  have b2 : (1 : Int) ≤ C := by omega
  have b3 : (s : Int) ≤ 1048576 := by omega
  have b4 : ¬ (cp = s) := by omega
  have b6 : s + C - s = C := by omega
  have b5 : (i : Int) ≤ 1048576 := by omega
  simp only [Int.natCast_add] at he
  go_enter Try.func71, Try.ntmps71
  go_wp2_with (fail)
  go_quiet (fail)
  go_wp2_with (fail)
  go_ret
  refine ⟨by show Ending.returned (Value.slice _ (s + C - s) (s + C - s)) = _; rw [b6], ?_⟩
  (repeat' (first | (with_reducible exact Below.refl _ _) | (with_reducible assumption) | (with_reducible refine Below.alloc ?_ ?_ _) | (with_reducible refine Below.drew ?_) | (with_reducible refine below_drewN ?_ _) | (with_reducible refine Below.setCell ?_ ?_ _) | (with_reducible refine chain ?_ (by assumption) ?_) | omega | (simp; done) | (simp; omega)))

set_option maxRecDepth 100000 in
set_option maxHeartbeats 4000000 in
theorem zm {r c n : Nat} {w : World} (hn : (r : Int) * (c : Int) = (n : Int)) (hb : n ≤ 1024) :
    Calls Try.prog 70 #[.int .i64 (r : Int), .int .i64 (c : Int)] w fun ee w' => ∃ g, ee = .returned (mv (r : Int) (c : Int) (some ⟨g, 0, none⟩) n n) ∧ Bk w' g 37 (List.replicate n z5) ∧ w.heap.size ≤ g ∧ Below w.heap.size w w' := by
  have hmk := mkD n (by omega)
  have e2 : IntKind.i64.wrap (n : Int) = (n : Int) := IntWalk.i64_in _ (by omega)
  go_enter Try.func70, Try.ntmps70
  go_wp2_with (fail)
  refine bodyPost_ret (v := mv (r : Int) (c : Int) (some ⟨w.heap.size + 1, 0, none⟩) n n) (by first | (simp [results, Try.results70, go_sem, *]; done) | (simp (disch := (first | omega | (simp; done) | (simp; omega))) [results, Try.results70, go_sem, *]; done)) rfl ⟨_, rfl, ?_, by omega, ?_⟩
  · exact Bk.made' (by simp)
  · (repeat' (first | (with_reducible exact Below.refl _ _) | (with_reducible assumption) | (with_reducible refine Below.alloc ?_ ?_ _) | (with_reducible refine Below.drew ?_) | (with_reducible refine below_drewN ?_ _) | (with_reducible refine Below.setCell ?_ ?_ _) | (with_reducible refine chain ?_ (by assumption) ?_) | omega | (simp; done) | (simp; omega)))

end Go.Proofs.Ytncgccpkbneagaa
