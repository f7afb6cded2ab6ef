/- How arguments are read. -/
import Derived.Test.YtjedpeoafpljhaaRows
import Derived.Test.YtjedpeoafpljhaaQRdA
import Derived.Test.YtjedpeoafpljhaaQCirc
import Derived.ProofKit
import Derived.OpenShut
import Derived.ShutString
import Derived.ChangeOld
import Derived.Below
import Derived.Lib.SmallJoins
import Derived.Deep.Slices
import Derived.Deep.Strs
import Derived.DataReads
namespace Go.Proofs.Ytjedpeoafpljhaa.C4
open Go.ChangeShapes Go.WideShapes Go.ChangeAt Go.RowKit Go.Joins Go.Deep
open Go.ChangeMaps (open_string shut_string)
set_option linter.unusedVariables false
set_option linter.unusedSimpArgs false

theorem cellsCircuit : Try.prog.cellsOf 49 = 2 := by kernel_rfl
set_option maxRecDepth 100000 in
theorem fieldsCircuit : ∃ f0 f1 : Field, Try.prog.underlying 49 = some (.struct #[f0, f1]) ∧ oneCellFields Try.prog #[f0, f1] = true ∧ f0.type = 3 ∧ f1.type = 47 := ⟨_, _, Try.underlying49, by kernel_rfl, rfl, rfl⟩
set_option maxRecDepth 100000 in
theorem argCircuit {H : Type} {enc : TypeId × Value → H} {W : World} {base : Nat} {spare : Nat → Bool} {held : Bool} {r : Reach} {b0 : Nat} {v : Value} {d : DataW H} {p : List MemPlace}
    (hv : Value.okWide Try.prog W r b0 49 v) (h : DataW.Trod enc Try.prog W base spare held 49 v d p) :
    ∃ (a0 : Int) (A1 : Option Addr) (n1 c1 : Nat) (xs1 : List GateV), v = circuitV a0 A1 n1 c1 ∧ I64 a0 ∧ (Rd gateE W A1 xs1 ∧ xs1.length = n1 ∧ n1 ≤ maxLen) := by
  obtain ⟨f0, f1, hs, ho, t0, t1⟩ := fieldsCircuit
  obtain ⟨v0, v1, y0, y1, n, rfl, _, _, h0, h1⟩ := open_agg2 hs ho cellsCircuit hv h
  rw [t0] at h0
  obtain ⟨a0, e0, _, w0⟩ := DataW.trod_int Try.underlying3 h0
  simp only [List.cons.injEq, and_true] at e0
  subst e0
  rw [t1] at h1
  obtain ⟨A1, n1, c1, xs1, rfl, r1⟩ := sliceGate h1
  exact ⟨a0, A1, n1, c1, xs1, rfl, bounds_i64 w0, r1⟩
end Go.Proofs.Ytjedpeoafpljhaa.C4
