/- How an argument of the laws' own type of normal forms is read: a string and two numbers. -/
import Derived.Test.YtofclfgaekjonaaDoorRows
import Derived.ProofKit
import Derived.OpenShut
import Derived.ShutString
import Derived.ChangeOld
import Derived.Below
import Derived.Lib.SmallJoins
import Derived.Deep.Slices
import Derived.Deep.Strs
import Derived.DataReads
import Derived.Test.YtofclfgaekjonaaDoorVg
namespace Go.Proofs.YtofclfgaekjonaaDoor
open Go.ChangeShapes Go.WideShapes Go.ChangeAt Go.RowKit Go.Joins Go.Deep
open Go.ChangeMaps (open_string shut_string)
set_option linter.unusedVariables false
set_option linter.unusedSimpArgs false

theorem own : ownKnob Tryd.prog.godebug = none := by kernel_rfl
theorem laidOut : laidOutB Tryd.prog = true := by kernel_rfl
abbrev I64 (x : Int) : Prop := -9223372036854775808 ≤ x ∧ x ≤ 9223372036854775807
theorem cellsForm : Tryd.prog.cellsOf 23 = 3 := by kernel_rfl
set_option maxRecDepth 100000 in
theorem fieldsForm : ∃ f0 f1 f2 : Field, Tryd.prog.underlying 23 = some (.struct #[f0, f1, f2]) ∧ oneCellFields Tryd.prog #[f0, f1, f2] = true ∧ f0.type = 9 ∧ f1.type = 3 ∧ f2.type = 3 :=
  ⟨_, _, _, Tryd.underlying23, by kernel_rfl, rfl, rfl, rfl⟩
set_option maxRecDepth 100000 in
theorem form_arg {H : Type} {enc : TypeId × Value → H} {W : World} {base : Nat} {spare : Nat → Bool} {held : Bool} {r : Reach} {b0 : Nat} {v : Value} {d : DataW H} {p : List MemPlace}
    (hv : Value.okWide Tryd.prog W r b0 23 v) (h : DataW.Trod enc Tryd.prog W base spare held 23 v d p) :
    ∃ (s : ByteArray) (a b : Int), v = fmv s a b ∧ I64 a ∧ I64 b ∧ s.size ≤ maxLen := by
  obtain ⟨f0, f1, f2, hs, ho, t0, t1, t2⟩ := fieldsForm
  obtain ⟨v0, v1, v2, y0, y1, y2, n, rfl, _, _, h0, h1, h2⟩ := open_agg3 hs ho cellsForm hv h
  rw [t0] at h0
  rw [t1] at h1
  rw [t2] at h2
  obtain ⟨s, e0, _, ws⟩ := DataW.trod_string Tryd.underlying9 h0
  obtain ⟨a, e1, _, wa⟩ := DataW.trod_int Tryd.underlying3 h1
  obtain ⟨b, e2, _, wb⟩ := DataW.trod_int Tryd.underlying3 h2
  simp only [List.cons.injEq, and_true] at e0 e1 e2
  subst e0 e1 e2
  exact ⟨s, a, b, rfl, bounds_i64 wa, bounds_i64 wb, ws⟩
end Go.Proofs.YtofclfgaekjonaaDoor
