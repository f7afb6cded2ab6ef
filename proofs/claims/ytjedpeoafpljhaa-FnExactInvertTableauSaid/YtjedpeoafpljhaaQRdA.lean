/- How arguments are read. -/
import Derived.Test.YtjedpeoafpljhaaRows
import Derived.Test.YtjedpeoafpljhaaQFlat
import Derived.ProofKit
import Derived.OpenShut
import Derived.ShutString
import Derived.ChangeOld
import Derived.Below
import Derived.Lib.SmallJoins
import Derived.Deep.Slices
import Derived.Deep.Strs
import Derived.DataReads
namespace Go.Proofs.Ytjedpeoafpljhaa.C4
open Go.ChangeShapes Go.WideShapes Go.ChangeAt Go.RowKit Go.Joins Go.Deep
open Go.ChangeMaps (open_string shut_string)
set_option linter.unusedVariables false
set_option linter.unusedSimpArgs false

theorem own : ownKnob Try.prog.godebug = none := by kernel_rfl
theorem laidOut : laidOutB Try.prog = true := by kernel_rfl
/-- within int -/
abbrev I64 (x : Int) : Prop := -9223372036854775808 ≤ x ∧ x ≤ 9223372036854775807
theorem cellsInt : Try.prog.cellsOf 3 = 1 := by kernel_rfl
theorem listOf {α : Type} {P : Nat → α → Prop} (n : Nat) (h : ∀ i, i < n → ∃ d, P i d) : ∃ xs : List α, xs.length = n ∧ ∀ k x, xs[k]? = some x → P k x := by
  induction n with
  | zero => exact ⟨[], rfl, fun k x hk => by simp at hk⟩
  | succ n ih =>
    obtain ⟨xs, hl, hx⟩ := ih (fun i hi => h i (by omega))
    obtain ⟨d, hd⟩ := h n (by omega)
    refine ⟨xs ++ [d], by simp [hl], fun k x hk => ?_⟩
    rw [List.getElem?_append] at hk
    split at hk
    · exact hx k x hk
    · rename_i hge
      have hkn : k = n := by
        have := (List.getElem?_eq_some_iff.1 hk).1
        simp at this; omega
      subst hkn
      rw [hl, Nat.sub_self] at hk
      simp only [List.getElem?_cons_zero, Option.some.injEq] at hk
      rw [← hk]; exact hd
/-- a slice of flat values that came in -/
theorem sliceArg {α : Type} (E : Enc α) {H : Type} {enc : TypeId × Value → H} {W : World} {base : Nat} {spare : Nat → Bool} {held : Bool} {fuel : Nat} {v : Value} {x : DataW H × List MemPlace} {st et : TypeId} (hu : Try.prog.underlying st = some (.slice et)) (hc : Try.prog.cellsOf et = E.n)
    (hcells : ∀ {fuel : Nat} {cs : List Value} {x : DataW H × List MemPlace}, cs.length = E.n → DataW.trod enc Try.prog W base spare held fuel et cs = some x → ∃ d : α, cs = E.cs d)
    (h : DataW.trod enc Try.prog W base spare held fuel st [v] = some x) :
    ∃ (A : Option Addr) (n cp : Nat) (xs : List α), v = .slice A n cp ∧ Rd E W A xs ∧ xs.length = n ∧ n ≤ maxLen := by
  rcases open_slice hu h with ⟨e, _⟩ | ⟨a, len, cap, m, k, D, Pl, e, hb, hl, hm, hmm, _, hi⟩
  · simp only [List.cons.injEq, and_true] at e
    exact ⟨none, 0, 0, [], e, Rd.nil _ _, rfl, Nat.zero_le _⟩
  · simp only [List.cons.injEq, and_true] at e
    rw [hc] at hi
    have hlm : len ≤ m := by rw [hmm]; split <;> omega
    have each : ∀ i, i < len → ∃ d : α, ∀ j u, (E.cs d)[j]? = some u → W.cell? ((a.add (i * E.n)).add j) = some u := by
      intro i hi2
      obtain ⟨cs', h1, h2⟩ := hi i (by omega)
      obtain ⟨_, hlen, hat⟩ := World.cells?_some h1
      obtain ⟨d, rfl⟩ := hcells hlen h2
      refine ⟨d, fun j u hu => ?_⟩
      have hj := (List.getElem?_eq_some_iff.1 hu).1
      rw [hat j (by rw [E.len] at hj; exact hj), hu]
    obtain ⟨xs, hxl, hx⟩ := listOf len each
    refine ⟨some a, len, cap, xs, e, ?_, hxl, Nat.le_trans hl hm⟩
    have hspot : 0 < len → a.spot = none := by
      intro h0
      obtain ⟨d, hd⟩ := each 0 h0
      have hp : 0 < (E.cs d).length := by rw [E.len]; exact E.pos
      have := hd 0 _ (List.getElem?_eq_getElem hp)
      simp only [Nat.zero_mul, Addr.add, if_true] at this
      exact World.cell?_spot this
    intro k y hk
    have hkl : k < len := by rw [← hxl]; exact (List.getElem?_eq_some_iff.1 hk).1
    have hs := hspot (by omega)
    obtain ⟨g, o, sp⟩ := a
    dsimp only at hs
    subst hs
    have hy := hx k y hk
    simp only [adrAdd] at hy
    exact ⟨g, o, rfl, fun j u hj => hy j u hj⟩
theorem cells_Int {H : Type} {enc : TypeId × Value → H} {W : World} {base : Nat} {spare : Nat → Bool} {held : Bool} {fuel : Nat} {cs : List Value} {x : DataW H × List MemPlace} (hl : cs.length = 1) (hf : DataW.trod enc Try.prog W base spare held fuel 3 cs = some x) : ∃ d : Int, cs = intE.cs d := by
  obtain ⟨a, e0, _, _⟩ := DataW.trod_int Try.underlying3 hf
  exact ⟨a, e0⟩
theorem sliceInt {H : Type} {enc : TypeId × Value → H} {W : World} {base : Nat} {spare : Nat → Bool} {held : Bool} {fuel : Nat} {v : Value} {x : DataW H × List MemPlace} (h : DataW.trod enc Try.prog W base spare held fuel 88 [v] = some x) :
    ∃ (A : Option Addr) (n cp : Nat) (xs : List Int), v = .slice A n cp ∧ Rd intE W A xs ∧ xs.length = n ∧ n ≤ maxLen :=
  sliceArg intE Try.underlying88 cellsInt (fun hl hf => cells_Int hl hf) h
theorem cellsGate : Try.prog.cellsOf 161 = 3 := by kernel_rfl
set_option maxRecDepth 100000 in
theorem fieldsGate : ∃ f0 f1 f2 : Field, Try.prog.underlying 161 = some (.struct #[f0, f1, f2]) ∧ f0.type = 3 ∧ f0.offset = 0 ∧ f1.type = 3 ∧ f1.offset = 1 ∧ f2.type = 3 ∧ f2.offset = 2 := ⟨_, _, _, Try.underlying161, rfl, rfl, rfl, rfl, rfl, rfl⟩
theorem cells_Gate {H : Type} {enc : TypeId × Value → H} {W : World} {base : Nat} {spare : Nat → Bool} {held : Bool} {fuel : Nat} {cs : List Value} {x : DataW H × List MemPlace} (hl : cs.length = 3) (hf : DataW.trod enc Try.prog W base spare held fuel 161 cs = some x) : ∃ d : GateV, cs = gateE.cs d := by
  obtain ⟨f0, f1, f2, hs, t0, o0, t1, o1, t2, o2⟩ := fieldsGate
  match cs, hl with
  | [c0, c1, c2], _ =>
    obtain ⟨y0, y1, y2, n, _, _, h0, h1, h2⟩ := trod_struct3 hs hf
    rw [t0, o0, cellsInt] at h0
    rw [t1, o1, cellsInt] at h1
    rw [t2, o2, cellsInt] at h2
    simp only [List.drop_zero, List.take_succ_cons, List.take_zero, List.drop_succ_cons] at h0 h1 h2
    obtain ⟨a0, e0, _, _⟩ := DataW.trod_int Try.underlying3 h0
    obtain ⟨a1, e1, _, _⟩ := DataW.trod_int Try.underlying3 h1
    obtain ⟨a2, e2, _, _⟩ := DataW.trod_int Try.underlying3 h2
    simp only [List.cons.injEq, and_true] at e0 e1 e2
    subst e0 e1 e2
    exact ⟨⟨a0, a1, a2⟩, rfl⟩
set_option maxRecDepth 100000 in
theorem argGate {H : Type} {enc : TypeId × Value → H} {W : World} {base : Nat} {spare : Nat → Bool} {held : Bool} {r : Reach} {b0 : Nat} {v : Value} {d : DataW H} {p : List MemPlace}
    (hv : Value.okWide Try.prog W r b0 161 v) (h : DataW.Trod enc Try.prog W base spare held 161 v d p) :
    ∃ x : GateV, v = x.v := by
  obtain ⟨f0, f1, f2, hs, _⟩ := fieldsGate
  obtain ⟨cs, rfl, hsz⟩ := okWide_struct hs hv
  obtain ⟨fuel, hf⟩ := h
  obtain ⟨d, hd⟩ := cells_Gate (cs := cs.toList) (by rw [Array.length_toList]; exact hsz.trans cellsGate) hf
  refine ⟨d, ?_⟩
  have : cs = (gateE.cs d).toArray := by rw [← hd]
  rw [this]; rfl
theorem sliceGate {H : Type} {enc : TypeId × Value → H} {W : World} {base : Nat} {spare : Nat → Bool} {held : Bool} {fuel : Nat} {v : Value} {x : DataW H × List MemPlace} (h : DataW.trod enc Try.prog W base spare held fuel 47 [v] = some x) :
    ∃ (A : Option Addr) (n cp : Nat) (xs : List GateV), v = .slice A n cp ∧ Rd gateE W A xs ∧ xs.length = n ∧ n ≤ maxLen :=
  sliceArg gateE Try.underlying47 cellsGate (fun hl hf => cells_Gate hl hf) h
end Go.Proofs.Ytjedpeoafpljhaa.C4
