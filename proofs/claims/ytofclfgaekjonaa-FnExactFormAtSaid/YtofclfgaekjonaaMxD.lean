/- Numbers of matrices as one value. -/
import Derived.Test.YtofclfgaekjonaaDyV
namespace Go.Proofs.Ytofclfgaekjonaa
open Go.RowKit RM
set_option linter.unusedVariables false
set_option linter.unusedSimpArgs false
attribute [local irreducible] World.setCell

/-- a dyadic number, valid or not -/
structure D5 where
  a : Int
  b : Int
  c : Int
  d : Int
  e : Int
abbrev D5.v (x : D5) : Value := dy x.a x.b x.c x.d x.e
def D5.ok (x : D5) : Bool := vi x.a x.b x.c x.d x.e
def z5 : D5 := ⟨0, 0, 0, 0, 0⟩
def one5 : D5 := ⟨1, 0, 0, 0, 0⟩
def ofDy (x : Dy) : D5 := ⟨x.a, x.b, x.c, x.d, x.e⟩
theorem z5_ok : z5.ok = true := by decide
theorem one5_ok : one5.ok = true := by decide
theorem ok_nat {x : D5} (h : x.ok = true) : ∃ n : Nat, x.e = n ∧ vd x.a x.b x.c x.d n = true := by
  rcases vi_cases (a := x.a) (b := x.b) (c := x.c) (d := x.d) (e := x.e) with k | ⟨n, h1, h2⟩
  · unfold D5.ok at h; rw [k] at h; cases h
  · exact ⟨n, h1, h2⟩
theorem ok_low {e : Nat} {a b c d : Int} (hx : vr a b c d = true) (he : e ≤ 60) : (ofDy (low e a b c d)).ok = true := by
  rcases hl : low e a b c d with ⟨A, B, C, D, E⟩
  have := low_vd hx he hl
  unfold D5.ok ofDy
  simp only [vi_nat, this]
attribute [irreducible] D5.ok
end Go.Proofs.Ytofclfgaekjonaa
