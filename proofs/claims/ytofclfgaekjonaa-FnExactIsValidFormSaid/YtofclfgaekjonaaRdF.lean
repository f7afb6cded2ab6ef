/- How an argument of the laws' own type of normal forms is read: a string and two numbers. -/
import Derived.Test.YtofclfgaekjonaaReadsM
import Derived.Test.YtofclfgaekjonaaVg
namespace Go.Proofs.Ytofclfgaekjonaa
open Go.ChangeShapes Go.WideShapes Go.ChangeAt Go.RowKit Go.Joins Go.Deep
open Go.ChangeMaps (open_string shut_string)
set_option linter.unusedVariables false
set_option linter.unusedSimpArgs false

theorem cellsForm : Try.prog.cellsOf 78 = 3 := by kernel_rfl
set_option maxRecDepth 100000 in
theorem fieldsForm : ∃ f0 f1 f2 : Field, Try.prog.underlying 78 = some (.struct #[f0, f1, f2]) ∧ oneCellFields Try.prog #[f0, f1, f2] = true ∧ f0.type = 9 ∧ f1.type = 3 ∧ f2.type = 3 :=
  ⟨_, _, _, Try.underlying78, by kernel_rfl, rfl, rfl, rfl⟩
set_option maxRecDepth 100000 in
theorem form_arg {H : Type} {enc : TypeId × Value → H} {W : World} {base : Nat} {spare : Nat → Bool} {held : Bool} {r : Reach} {b0 : Nat} {v : Value} {d : DataW H} {p : List MemPlace}
    (hv : Value.okWide Try.prog W r b0 78 v) (h : DataW.Trod enc Try.prog W base spare held 78 v d p) :
    ∃ (s : ByteArray) (a b : Int), v = fmv s a b ∧ I64 a ∧ I64 b ∧ s.size ≤ maxLen := by
  obtain ⟨f0, f1, f2, hs, ho, t0, t1, t2⟩ := fieldsForm
  obtain ⟨v0, v1, v2, y0, y1, y2, n, rfl, _, _, h0, h1, h2⟩ := open_agg3 hs ho cellsForm hv h
  rw [t0] at h0
  rw [t1] at h1
  rw [t2] at h2
  obtain ⟨s, e0, _, ws⟩ := DataW.trod_string Try.underlying9 h0
  obtain ⟨a, e1, _, wa⟩ := DataW.trod_int Try.underlying3 h1
  obtain ⟨b, e2, _, wb⟩ := DataW.trod_int Try.underlying3 h2
  simp only [List.cons.injEq, and_true] at e0 e1 e2
  subst e0 e1 e2
  exact ⟨s, a, b, rfl, bounds_i64 wa, bounds_i64 wb, ws⟩
end Go.Proofs.Ytofclfgaekjonaa
