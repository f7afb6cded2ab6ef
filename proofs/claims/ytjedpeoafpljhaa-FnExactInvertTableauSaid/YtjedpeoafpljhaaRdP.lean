/- How arguments are read. -/
import Derived.Test.YtjedpeoafpljhaaRows
import Derived.Test.YtjedpeoafpljhaaQRdA
import Derived.Test.YtjedpeoafpljhaaPfD
import Derived.ProofKit
import Derived.OpenShut
import Derived.ShutString
import Derived.ChangeOld
import Derived.Below
import Derived.Lib.SmallJoins
import Derived.Deep.Slices
import Derived.Deep.Strs
import Derived.DataReads
namespace Go.Proofs.Ytjedpeoafpljhaa.C4
open Go.ChangeShapes Go.WideShapes Go.ChangeAt Go.RowKit Go.Joins Go.Deep
open Go.ChangeMaps (open_string shut_string)
set_option linter.unusedVariables false
set_option linter.unusedSimpArgs false

theorem cellsPauli : Try.prog.cellsOf 41 = 3 := by kernel_rfl
set_option maxRecDepth 100000 in
theorem fieldsPauli : ∃ f0 f1 f2 : Field, Try.prog.underlying 41 = some (.struct #[f0, f1, f2]) ∧ f0.type = 3 ∧ f0.offset = 0 ∧ f1.type = 3 ∧ f1.offset = 1 ∧ f2.type = 3 ∧ f2.offset = 2 := ⟨_, _, _, Try.underlying41, rfl, rfl, rfl, rfl, rfl, rfl⟩
theorem cells_Pauli {H : Type} {enc : TypeId × Value → H} {W : World} {base : Nat} {spare : Nat → Bool} {held : Bool} {fuel : Nat} {cs : List Value} {x : DataW H × List MemPlace} (hl : cs.length = 3) (hf : DataW.trod enc Try.prog W base spare held fuel 41 cs = some x) : ∃ d : PauliV, cs = pauliE.cs d := by
  obtain ⟨f0, f1, f2, hs, t0, o0, t1, o1, t2, o2⟩ := fieldsPauli
  match cs, hl with
  | [c0, c1, c2], _ =>
    obtain ⟨y0, y1, y2, n, _, _, h0, h1, h2⟩ := trod_struct3 hs hf
    rw [t0, o0, cellsInt] at h0
    rw [t1, o1, cellsInt] at h1
    rw [t2, o2, cellsInt] at h2
    simp only [List.drop_zero, List.take_succ_cons, List.take_zero, List.drop_succ_cons] at h0 h1 h2
    obtain ⟨a0, e0, _, _⟩ := DataW.trod_int Try.underlying3 h0
    obtain ⟨a1, e1, _, _⟩ := DataW.trod_int Try.underlying3 h1
    obtain ⟨a2, e2, _, _⟩ := DataW.trod_int Try.underlying3 h2
    simp only [List.cons.injEq, and_true] at e0 e1 e2
    subst e0 e1 e2
    exact ⟨⟨a0, a1, a2⟩, rfl⟩
set_option maxRecDepth 100000 in
theorem argPauli {H : Type} {enc : TypeId × Value → H} {W : World} {base : Nat} {spare : Nat → Bool} {held : Bool} {r : Reach} {b0 : Nat} {v : Value} {d : DataW H} {p : List MemPlace}
    (hv : Value.okWide Try.prog W r b0 41 v) (h : DataW.Trod enc Try.prog W base spare held 41 v d p) :
    ∃ x : PauliV, v = x.v := by
  obtain ⟨f0, f1, f2, hs, _⟩ := fieldsPauli
  obtain ⟨cs, rfl, hsz⟩ := okWide_struct hs hv
  obtain ⟨fuel, hf⟩ := h
  obtain ⟨d, hd⟩ := cells_Pauli (cs := cs.toList) (by rw [Array.length_toList]; exact hsz.trans cellsPauli) hf
  refine ⟨d, ?_⟩
  have : cs = (pauliE.cs d).toArray := by rw [← hd]
  rw [this]; rfl
end Go.Proofs.Ytjedpeoafpljhaa.C4
