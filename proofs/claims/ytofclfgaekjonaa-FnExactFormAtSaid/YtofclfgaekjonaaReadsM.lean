/- How an argument of the laws' own type of matrices is read: two integers and a slice of numbers. -/
import Derived.Test.YtofclfgaekjonaaRows
import Derived.Test.YtofclfgaekjonaaLs3
import Derived.ProofKit
import Derived.OpenShut
import Derived.ShutString
import Derived.ChangeOld
import Derived.Below
import Derived.Lib.SmallJoins
import Derived.Deep.Slices
import Derived.DataReads
namespace Go.Proofs.Ytofclfgaekjonaa
open Go.ChangeShapes Go.WideShapes Go.ChangeAt Go.RowKit Go.Joins Go.Deep
open Go.ChangeMaps (open_string shut_string)
set_option linter.unusedVariables false
set_option linter.unusedSimpArgs false

theorem own : ownKnob Try.prog.godebug = none := by kernel_rfl
theorem laidOut : laidOutB Try.prog = true := by kernel_rfl
/-- within int -/
abbrev I64 (x : Int) : Prop := -9223372036854775808 ≤ x ∧ x ≤ 9223372036854775807
theorem cellsRing : Try.prog.cellsOf 140 = 4 := by kernel_rfl
theorem cellsDyadic : Try.prog.cellsOf 142 = 5 := by kernel_rfl
theorem cellsIntD : Try.prog.cellsOf 3 = 1 := by kernel_rfl
theorem fieldsDyadic : ∃ f0 f1 : Field, Try.prog.underlying 142 = some (.struct #[f0, f1]) ∧ f0.type = 140 ∧ f0.offset = 0 ∧ f1.type = 3 ∧ f1.offset = 4 :=
  ⟨_, _, Try.underlying142, rfl, rfl, rfl, rfl⟩
theorem fieldsRingO : ∃ f0 f1 f2 f3 : Field, Try.prog.underlying 140 = some (.struct #[f0, f1, f2, f3]) ∧ (f0.type = 3 ∧ f1.type = 3 ∧ f2.type = 3 ∧ f3.type = 3) ∧ f0.offset = 0 ∧ f1.offset = 1 ∧ f2.offset = 2 ∧ f3.offset = 3 :=
  ⟨_, _, _, _, Try.underlying140, ⟨rfl, rfl, rfl, rfl⟩, rfl, rfl, rfl, rfl⟩
theorem cellsMatrix : Try.prog.cellsOf 24 = 3 := by kernel_rfl
set_option maxRecDepth 100000 in
theorem fieldsMatrix : ∃ f0 f1 f2 : Field, Try.prog.underlying 24 = some (.struct #[f0, f1, f2]) ∧ oneCellFields Try.prog #[f0, f1, f2] = true ∧ f0.type = 3 ∧ f1.type = 3 ∧ f2.type = 22 :=
  ⟨_, _, _, Try.underlying24, by kernel_rfl, rfl, rfl, rfl⟩

theorem list5 {α : Type} {cs : List α} (h : cs.length = 5) : ∃ c0 c1 c2 c3 c4, cs = [c0, c1, c2, c3, c4] := by
  match cs, h with
  | [c0, c1, c2, c3, c4], _ => exact ⟨c0, c1, c2, c3, c4, rfl⟩

theorem dyadic_cells {H : Type} {enc : TypeId × Value → H} {W : World} {base : Nat} {spare : Nat → Bool} {held : Bool} {fuel : Nat} {cs : List Value} {x : DataW H × List MemPlace} (hl : cs.length = 5)
    (hf : DataW.trod enc Try.prog W base spare held fuel 142 cs = some x) : ∃ d : D5, cs = d.cs := by
  obtain ⟨f0, f1, hs, t0, o0, t1, o1⟩ := fieldsDyadic
  obtain ⟨g0, g1, g2, g3, gs, ⟨s0, s1, s2, s3⟩, q0, q1, q2, q3⟩ := fieldsRingO
  obtain ⟨c0, c1, c2, c3, c4, rfl⟩ := list5 hl
  obtain ⟨y0, y1, n, _, _, h0, h1⟩ := trod_struct2 hs hf
  rw [t0, o0, cellsRing] at h0
  rw [t1, o1, cellsIntD] at h1
  simp only [List.drop_zero, List.take_succ_cons, List.take_zero, List.drop_succ_cons] at h0 h1
  obtain ⟨z0, z1, z2, z3, m, _, _, k0, k1, k2, k3⟩ := trod_struct4 gs h0
  rw [s0, q0, cellsIntD] at k0
  rw [s1, q1, cellsIntD] at k1
  rw [s2, q2, cellsIntD] at k2
  rw [s3, q3, cellsIntD] at k3
  simp only [List.drop_zero, List.take_succ_cons, List.take_zero, List.drop_succ_cons] at k0 k1 k2 k3
  obtain ⟨a, e0, _, wa⟩ := DataW.trod_int Try.underlying3 k0
  obtain ⟨b, e1, _, wb⟩ := DataW.trod_int Try.underlying3 k1
  obtain ⟨c, e2, _, wc⟩ := DataW.trod_int Try.underlying3 k2
  obtain ⟨e, e3, _, we⟩ := DataW.trod_int Try.underlying3 k3
  obtain ⟨x, e4, _, wx⟩ := DataW.trod_int Try.underlying3 h1
  simp only [List.cons.injEq, and_true] at e0 e1 e2 e3 e4
  subst e0 e1 e2 e3 e4
  exact ⟨⟨a, b, c, e, x⟩, rfl⟩

theorem list_of {P : Nat → D5 → Prop} (n : Nat) (h : ∀ i, i < n → ∃ d, P i d) : ∃ xs : List D5, xs.length = n ∧ ∀ k x, xs[k]? = some x → P k x := by
  induction n with
  | zero => exact ⟨[], rfl, fun k x hk => by simp at hk⟩
  | succ n ih =>
    obtain ⟨xs, hl, hx⟩ := ih (fun i hi => h i (by omega))
    obtain ⟨d, hd⟩ := h n (by omega)
    refine ⟨xs ++ [d], by simp [hl], fun k x hk => ?_⟩
    rw [List.getElem?_append] at hk
    split at hk
    · exact hx k x hk
    · rename_i hge
      have hkn : k = n := by
        have := (List.getElem?_eq_some_iff.1 hk).1
        simp at this; omega
      subst hkn
      rw [hl, Nat.sub_self] at hk
      simp only [List.getElem?_cons_zero, Option.some.injEq] at hk
      rw [← hk]; exact hd

theorem slice_arg {H : Type} {enc : TypeId × Value → H} {W : World} {base : Nat} {spare : Nat → Bool} {held : Bool} {fuel : Nat} {v : Value} {x : DataW H × List MemPlace}
    (h : DataW.trod enc Try.prog W base spare held fuel 22 [v] = some x) :
    ∃ (A : Option Addr) (n cp : Nat) (xs : List D5), v = .slice A n cp ∧ Rd W A xs ∧ xs.length = n ∧ n ≤ maxLen := by
  rcases open_slice Try.underlying22 h with ⟨e, _⟩ | ⟨a, len, cap, m, k, D, Pl, e, hb, hl, hm, hmm, _, hi⟩
  · simp only [List.cons.injEq, and_true] at e
    exact ⟨none, 0, 0, [], e, Rd.nil _ _, rfl, Nat.zero_le _⟩
  · simp only [List.cons.injEq, and_true] at e
    rw [cellsDyadic] at hi
    have hlm : len ≤ m := by rw [hmm]; split <;> omega
    have each : ∀ i, i < len → ∃ d : D5, ∀ j u, d.cs[j]? = some u → W.cell? ((a.add (i * 5)).add j) = some u := by
      intro i hi2
      obtain ⟨cs', h1, h2⟩ := hi i (by omega)
      obtain ⟨_, hlen, hat⟩ := World.cells?_some h1
      obtain ⟨d, rfl⟩ := dyadic_cells hlen h2
      refine ⟨d, fun j u hu => ?_⟩
      have hj := (List.getElem?_eq_some_iff.1 hu).1
      rw [hat j (by omega), hu]
    obtain ⟨xs, hxl, hx⟩ := list_of len each
    refine ⟨some a, len, cap, xs, e, ?_, hxl, Nat.le_trans hl hm⟩
    have hspot : 0 < len → a.spot = none := by
      intro h0
      obtain ⟨d, hd⟩ := each 0 h0
      have := hd 0 _ (show d.cs[0]? = some (.int .i64 d.a) from rfl)
      simp only [Nat.zero_mul, Addr.add, if_true] at this
      exact World.cell?_spot this
    intro k y hk
    have hkl : k < len := by rw [← hxl]; exact (List.getElem?_eq_some_iff.1 hk).1
    have hs := hspot (by omega)
    obtain ⟨g, o, sp⟩ := a
    dsimp only at hs
    subst hs
    have hy := hx k y hk
    simp only [addr_add] at hy
    exact ⟨g, o, rfl, ⟨hy 0 _ rfl, hy 1 _ rfl, hy 2 _ rfl, hy 3 _ rfl, hy 4 _ rfl⟩⟩

set_option maxRecDepth 100000 in
theorem matrix_arg {H : Type} {enc : TypeId × Value → H} {W : World} {base : Nat} {spare : Nat → Bool} {held : Bool} {r : Reach} {b0 : Nat} {v : Value} {d : DataW H} {p : List MemPlace}
    (hv : Value.okWide Try.prog W r b0 24 v) (h : DataW.Trod enc Try.prog W base spare held 24 v d p) :
    ∃ (a b : Int) (A : Option Addr) (n cp : Nat) (xs : List D5), v = mv a b A n cp ∧ I64 a ∧ I64 b ∧ Rd W A xs ∧ xs.length = n ∧ n ≤ maxLen := by
  obtain ⟨f0, f1, f2, hs, ho, t0, t1, t2⟩ := fieldsMatrix
  obtain ⟨v0, v1, v2, y0, y1, y2, n, rfl, _, _, h0, h1, h2⟩ := open_agg3 hs ho cellsMatrix hv h
  rw [t0] at h0
  rw [t1] at h1
  rw [t2] at h2
  obtain ⟨a, e0, _, wa⟩ := DataW.trod_int Try.underlying3 h0
  obtain ⟨b, e1, _, wb⟩ := DataW.trod_int Try.underlying3 h1
  simp only [List.cons.injEq, and_true] at e0 e1
  subst e0 e1
  obtain ⟨A, n, cp, xs, rfl, hR, hl, hm⟩ := slice_arg h2
  exact ⟨a, b, A, n, cp, xs, rfl, bounds_i64 wa, bounds_i64 wb, hR, hl, hm⟩

set_option maxRecDepth 100000 in
theorem dyadic_arg {H : Type} {enc : TypeId × Value → H} {W : World} {base : Nat} {spare : Nat → Bool} {held : Bool} {r : Reach} {b0 : Nat} {v : Value} {d : DataW H} {p : List MemPlace}
    (hv : Value.okWide Try.prog W r b0 142 v) (h : DataW.Trod enc Try.prog W base spare held 142 v d p) :
    ∃ x : D5, v = x.v := by
  obtain ⟨f0, f1, hs, t0, o0, t1, o1⟩ := fieldsDyadic
  obtain ⟨cs, rfl, hsz⟩ := okWide_struct hs hv
  obtain ⟨fuel, hf⟩ := h
  obtain ⟨d, hd⟩ := dyadic_cells (cs := cs.toList) (by rw [Array.length_toList]; exact hsz.trans cellsDyadic) hf
  refine ⟨d, ?_⟩
  have : cs = d.cs.toArray := by rw [← hd]
  rw [this]; rfl
end Go.Proofs.Ytofclfgaekjonaa
