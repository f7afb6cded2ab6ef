/- How an argument of the laws' own type of dyadic numbers is read: five integers, each within its kind. -/
import Derived.Test.YtefmglofnoinmaaDoorRows
import Derived.Test.YtefmglofnoinmaaDoorReads
import Derived.Test.YtefmglofnoinmaaDoorDyA
import Derived.ProofKit
import Derived.OpenShut
import Derived.ShutString
import Derived.ChangeOld
import Derived.Below
import Derived.Lib.SmallJoins
namespace Go.Proofs.YtefmglofnoinmaaDoor
open Go.ChangeShapes Go.WideShapes Go.ChangeAt Go.RowKit Go.Joins Go.Deep
open Go.ChangeMaps (open_string shut_string)
set_option linter.unusedVariables false
set_option linter.unusedSimpArgs false

theorem cellsDyadic : Tryd.prog.cellsOf 38 = 5 := by kernel_rfl
theorem cellsIntD : Tryd.prog.cellsOf 3 = 1 := by kernel_rfl
set_option maxRecDepth 100000 in
theorem fieldsDyadic : ∃ f0 f1 : Field, Tryd.prog.underlying 38 = some (.struct #[f0, f1]) ∧ f0.type = 32 ∧ f0.offset = 0 ∧ f1.type = 3 ∧ f1.offset = 4 :=
  ⟨_, _, Tryd.underlying38, rfl, rfl, rfl, rfl⟩
set_option maxRecDepth 100000 in
theorem fieldsRingO : ∃ f0 f1 f2 f3 : Field, Tryd.prog.underlying 32 = some (.struct #[f0, f1, f2, f3]) ∧ (f0.type = 3 ∧ f1.type = 3 ∧ f2.type = 3 ∧ f3.type = 3) ∧ f0.offset = 0 ∧ f1.offset = 1 ∧ f2.offset = 2 ∧ f3.offset = 3 :=
  ⟨_, _, _, _, Tryd.underlying32, ⟨rfl, rfl, rfl, rfl⟩, rfl, rfl, rfl, rfl⟩
theorem array5 {α : Type} {cs : Array α} (h : cs.size = 5) : ∃ c0 c1 c2 c3 c4, cs = #[c0, c1, c2, c3, c4] := by
  obtain ⟨l⟩ := cs
  match l, h with
  | [c0, c1, c2, c3, c4], _ => exact ⟨c0, c1, c2, c3, c4, rfl⟩

set_option maxRecDepth 100000 in
theorem dyadic_arg {H : Type} {enc : TypeId × Value → H} {W : World} {base : Nat} {spare : Nat → Bool} {held : Bool} {r : Reach} {b0 : Nat} {v : Value} {d : DataW H} {p : List MemPlace}
    (hv : Value.okWide Tryd.prog W r b0 38 v) (h : DataW.Trod enc Tryd.prog W base spare held 38 v d p) :
    ∃ a b c e x : Int, v = dy a b c e x ∧ I64 a ∧ I64 b ∧ I64 c ∧ I64 e ∧ I64 x := by
  obtain ⟨f0, f1, hs, t0, o0, t1, o1⟩ := fieldsDyadic
  obtain ⟨g0, g1, g2, g3, gs, ⟨s0, s1, s2, s3⟩, q0, q1, q2, q3⟩ := fieldsRingO
  obtain ⟨cs, rfl, hsz⟩ := okWide_struct hs hv
  obtain ⟨c0, c1, c2, c3, c4, rfl⟩ := array5 (hsz.trans cellsDyadic)
  obtain ⟨fuel, hf⟩ := h
  obtain ⟨y0, y1, n, _, _, h0, h1⟩ := trod_struct2 hs hf
  rw [t0, o0, cellsRing] at h0
  rw [t1, o1, cellsIntD] at h1
  simp only [Value.cells, List.drop_zero, List.take_succ_cons, List.take_zero, List.drop_succ_cons] at h0 h1
  obtain ⟨z0, z1, z2, z3, m, _, _, k0, k1, k2, k3⟩ := trod_struct4 gs h0
  rw [s0, q0, cellsIntD] at k0
  rw [s1, q1, cellsIntD] at k1
  rw [s2, q2, cellsIntD] at k2
  rw [s3, q3, cellsIntD] at k3
  simp only [List.drop_zero, List.take_succ_cons, List.take_zero, List.drop_succ_cons] at k0 k1 k2 k3
  obtain ⟨a, e0, _, wa⟩ := DataW.trod_int Tryd.underlying3 k0
  obtain ⟨b, e1, _, wb⟩ := DataW.trod_int Tryd.underlying3 k1
  obtain ⟨c, e2, _, wc⟩ := DataW.trod_int Tryd.underlying3 k2
  obtain ⟨e, e3, _, we⟩ := DataW.trod_int Tryd.underlying3 k3
  obtain ⟨x, e4, _, wx⟩ := DataW.trod_int Tryd.underlying3 h1
  simp only [List.cons.injEq, and_true] at e0 e1 e2 e3 e4
  subst e0 e1 e2 e3 e4
  exact ⟨a, b, c, e, x, rfl, bounds_i64 wa, bounds_i64 wb, bounds_i64 wc, bounds_i64 we, bounds_i64 wx⟩
end Go.Proofs.YtefmglofnoinmaaDoor
