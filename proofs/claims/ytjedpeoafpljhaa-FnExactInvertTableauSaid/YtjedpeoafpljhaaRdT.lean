/- How arguments are read. -/
import Derived.Test.YtjedpeoafpljhaaRows
import Derived.Test.YtjedpeoafpljhaaRdP
import Derived.Test.YtjedpeoafpljhaaPt
import Derived.ProofKit
import Derived.OpenShut
import Derived.ShutString
import Derived.ChangeOld
import Derived.Below
import Derived.Lib.SmallJoins
import Derived.Deep.Slices
import Derived.Deep.Strs
import Derived.DataReads
namespace Go.Proofs.Ytjedpeoafpljhaa.C4
open Go.ChangeShapes Go.WideShapes Go.ChangeAt Go.RowKit Go.Joins Go.Deep
open Go.ChangeMaps (open_string shut_string)
set_option linter.unusedVariables false
set_option linter.unusedSimpArgs false

theorem slicePauli {H : Type} {enc : TypeId × Value → H} {W : World} {base : Nat} {spare : Nat → Bool} {held : Bool} {fuel : Nat} {v : Value} {x : DataW H × List MemPlace} (h : DataW.trod enc Try.prog W base spare held fuel 65 [v] = some x) :
    ∃ (A : Option Addr) (n cp : Nat) (xs : List PauliV), v = .slice A n cp ∧ Rd pauliE W A xs ∧ xs.length = n ∧ n ≤ maxLen :=
  sliceArg pauliE Try.underlying65 cellsPauli (fun hl hf => cells_Pauli hl hf) h
theorem cellsTableau : Try.prog.cellsOf 67 = 3 := by kernel_rfl
set_option maxRecDepth 100000 in
theorem fieldsTableau : ∃ f0 f1 f2 : Field, Try.prog.underlying 67 = some (.struct #[f0, f1, f2]) ∧ oneCellFields Try.prog #[f0, f1, f2] = true ∧ f0.type = 3 ∧ f1.type = 65 ∧ f2.type = 65 := ⟨_, _, _, Try.underlying67, by kernel_rfl, rfl, rfl, rfl⟩
set_option maxRecDepth 100000 in
theorem argTableau {H : Type} {enc : TypeId × Value → H} {W : World} {base : Nat} {spare : Nat → Bool} {held : Bool} {r : Reach} {b0 : Nat} {v : Value} {d : DataW H} {p : List MemPlace}
    (hv : Value.okWide Try.prog W r b0 67 v) (h : DataW.Trod enc Try.prog W base spare held 67 v d p) :
    ∃ (a0 : Int) (A1 : Option Addr) (n1 c1 : Nat) (xs1 : List PauliV) (A2 : Option Addr) (n2 c2 : Nat) (xs2 : List PauliV), v = tableauV a0 A1 n1 c1 A2 n2 c2 ∧ I64 a0 ∧ (Rd pauliE W A1 xs1 ∧ xs1.length = n1 ∧ n1 ≤ maxLen) ∧ (Rd pauliE W A2 xs2 ∧ xs2.length = n2 ∧ n2 ≤ maxLen) := by
  obtain ⟨f0, f1, f2, hs, ho, t0, t1, t2⟩ := fieldsTableau
  obtain ⟨v0, v1, v2, y0, y1, y2, n, rfl, _, _, h0, h1, h2⟩ := open_agg3 hs ho cellsTableau hv h
  rw [t0] at h0
  obtain ⟨a0, e0, _, w0⟩ := DataW.trod_int Try.underlying3 h0
  simp only [List.cons.injEq, and_true] at e0
  subst e0
  rw [t1] at h1
  obtain ⟨A1, n1, c1, xs1, rfl, r1⟩ := slicePauli h1
  rw [t2] at h2
  obtain ⟨A2, n2, c2, xs2, rfl, r2⟩ := slicePauli h2
  exact ⟨a0, A1, n1, c1, xs1, A2, n2, c2, xs2, rfl, bounds_i64 w0, r1, r2⟩
end Go.Proofs.Ytjedpeoafpljhaa.C4
