/- Bad3, ColI, CutG, MxE -/
import Derived.Test.YtofclfgaekjonaaZq10
import Derived.Test.YtofclfgaekjonaaZq9
import Derived.Test.YtofclfgaekjonaaZq3
import Derived.Test.YtofclfgaekjonaaZq4
import Derived.Deep.RegionHeld3
import Derived.Deep.DeepCutAuto
namespace Go.Proofs.Ytofclfgaekjonaa
open Go.RowKit RM
set_option linter.unusedVariables false
set_option linter.unusedSimpArgs false
attribute [local irreducible] World.setCell

/-- does any of the first j fail? -/
def anyB (j : Nat) (G : Nat → Bool) : Bool := (List.range j).any G
theorem anyB_0 (G : Nat → Bool) : anyB 0 G = false := rfl
theorem anyB_succ (j : Nat) (G : Nat → Bool) : anyB (j + 1) G = (anyB j G || G j) := by
  unfold anyB; rw [List.range_succ, List.any_append]; simp
theorem anyB_get {j q : Nat} {G : Nat → Bool} (h : anyB j G = false) (hq : q < j) : G q = false := by
  unfold anyB at h
  have := List.any_eq_false.1 h q (List.mem_range.2 hq)
  simpa using this
theorem anyB_of {j q : Nat} {G : Nat → Bool} (hq : q < j) (h : G q = true) : anyB j G = true := by
  cases hh : anyB j G
  · rw [anyB_get hh hq] at h; cases h
  · rfl
theorem anyB_f {j : Nat} {G : Nat → Bool} (h : ∀ q, q < j → G q = false) : anyB j G = false := by
  cases hh : anyB j G
  · rfl
  · unfold anyB at hh
    obtain ⟨q, hq, hg⟩ := List.any_eq_true.1 hh
    rw [h q (List.mem_range.1 hq)] at hg; cases hg
/-- what a model's function of matrices answers: nothing if a computation failed -/
def MR (w w' : World) (ee : Ending) (r c : Int) (n : Nat) (zs : List D5) (bad : Bool) : Prop :=
  (bad = true → ee = .returned (mt 0 0 none 0 0 false)) ∧ (bad = false → ∃ B cq, ee = .returned (mt r c B n cq true) ∧ Rd w' B zs ∧ (∀ a, B = some a → w.heap.size ≤ a.block)) ∧ Below w.heap.size w w'
/-- the state of a loop that appends what may fail: the failure so far, the numbers so far -/
def Sofar (z : Bool) (zs : List D5) (j : Nat) (F : Nat → D5) (G : Nat → Bool) : Prop := zs.length = j ∧ z = anyB j G ∧ (z = false → zs = tab j F)
theorem Sofar.start (F : Nat → D5) (G : Nat → Bool) : Sofar false [] 0 F G := ⟨rfl, rfl, fun _ => rfl⟩
theorem Sofar.next {z : Bool} {zs : List D5} {j : Nat} {F : Nat → D5} {G : Nat → Bool} {r : D5 × Bool} (h : Sofar z zs j F G) (h1 : z = false → r = (F j, G j)) (h2 : z = true → r.2 = true) : Sofar r.2 (zs ++ [r.1]) (j + 1) F G := by
  obtain ⟨hl, hz, hs⟩ := h
  refine ⟨by simp [hl], ?_, ?_⟩
  · rw [anyB_succ, ← hz]
    cases z
    · rw [h1 rfl]; rfl
    · rw [h2 rfl]; rfl
  · intro hr
    cases z
    · rw [h1 rfl, tab_succ, hs rfl]
    · rw [h2 rfl] at hr; cases hr
theorem kbad {a b : World} {g o k i : Nat} {u v : Value} (hb : Below a.heap.size (a.setCell ⟨g, o, none⟩ u) b) (hne : g ≠ k) (h : a.cell? ⟨k, i, none⟩ = some v) : b.cell? ⟨k, i, none⟩ = some v := by
  have h1 : (a.setCell ⟨g, o, none⟩ u).cell? ⟨k, i, none⟩ = some v := by rw [World.cell?_setCell_far _ _ _ _ hne, h]
  exact (hb.cell (p := ⟨k, i, none⟩) (World.block_lt_of_cell? a _ h)).trans h1
theorem Own5.badly {W W' : World} {base g o : Nat} {t : TypeId} {v u : Value} {xs : List D5} (h : Own5 W base t v xs) (hb : Below W.heap.size (W.setCell ⟨g, o, none⟩ u) W') (hg : g < base) : Own5 W' base t v xs :=
  (h.far (p := ⟨g, o, none⟩) hg u).mono (by rw [World.size_setCell]; exact hb)
theorem bad_below {W W' w : World} {g o : Nat} {u : Value} (hB : Below w.heap.size w W) (hb : Below W.heap.size (W.setCell ⟨g, o, none⟩ u) W') (hg : w.heap.size ≤ g) : Below w.heap.size w W' :=
  chain (hB.setCell (p := ⟨g, o, none⟩) hg u) hb hB.size
theorem bad_size {W W' : World} {g o : Nat} {u : Value} (hb : Below W.heap.size (W.setCell ⟨g, o, none⟩ u) W') : W.heap.size ≤ W'.heap.size := by
  have := hb.size; rwa [World.size_setCell] at this
theorem bad_drew {W W' : World} {g o : Nat} {u : Value} (hb : Below W.drew.heap.size (W.drew.setCell ⟨g, o, none⟩ u) W') : Below W.heap.size (W.setCell ⟨g, o, none⟩ u) W' := by
  rw [World.setCell_drew] at hb
  exact ⟨hb.os, hb.tape, hb.output, hb.size, hb.block⟩

end Go.Proofs.Ytofclfgaekjonaa
namespace Go.Proofs.Ytofclfgaekjonaa
open Go.RowKit RM
set_option linter.unusedVariables false
set_option linter.unusedSimpArgs false
attribute [local irreducible] World.setCell

/-- a row of a matrix: where it begins, where it ends -/
theorem row_at {R C n i : Nat} (hnn : n = R * C) (hi : i < R) : ∃ s : Nat, (i : Int) * (C : Int) = (s : Int) ∧ ((i : Int) + 1) * (C : Int) = ((s + C : Nat) : Int) ∧ s + C ≤ n ∧ s = i * C := by
  refine ⟨i * C, by simp, by rw [Int.natCast_add, Int.natCast_mul, Int.add_mul, Int.one_mul], ?_, rfl⟩
  have h1 : (i + 1) * C ≤ R * C := Nat.mul_le_mul_right C hi
  rw [Nat.add_mul, Nat.one_mul, ← hnn] at h1
  exact h1
theorem Rd.cx {W : World} {g q : Nat} {xs : List D5} {x : D5} (h : Rd W (some ⟨g, 0, none⟩) xs) (hx : xs[q]? = some x) : Cx W g (q * 5) x := by
  obtain ⟨g', o, e, hc⟩ := h q x hx
  simp only [Option.some.injEq, Addr.mk.injEq, and_true] at e
  obtain ⟨rfl, rfl⟩ := e
  rw [Nat.zero_add] at hc
  exact hc

end Go.Proofs.Ytofclfgaekjonaa
namespace Go.Proofs.Ytofclfgaekjonaa
open Go.RowKit
theorem kst3 {a : World} {g k o : Nat} {v v0 v1 v2 : Value} (hne : g ≠ k) (h : a.cell? ⟨k, o, none⟩ = some v) : (((a.setCell ⟨g, 0, none⟩ v0).setCell ⟨g, 1, none⟩ v1).setCell ⟨g, 2, none⟩ v2).cell? ⟨k, o, none⟩ = some v := by
  rw [World.cell?_setCell_far _ _ _ _ hne, World.cell?_setCell_far _ _ _ _ hne, World.cell?_setCell_far _ _ _ _ hne, h]
/-- what the slots hold and what the world holds -/
def CutG (R : Prop) (P : Prop) : Prop := R ∧ P
end Go.Proofs.Ytofclfgaekjonaa
namespace Go.Proofs.Ytofclfgaekjonaa
open Go.RowKit RM
set_option linter.unusedVariables false
set_option linter.unusedSimpArgs false
attribute [local irreducible] World.setCell

theorem addS_zl {z : Bool} {y : D5} (hy : y.ok = true) : addS z z5 y = (y, z) := by
  obtain ⟨a, b, c, d, e'⟩ := y
  obtain ⟨e, k1, k2⟩ := ok_nat hy
  dsimp only at k1 k2
  subst k1
  obtain ⟨h1, h2, h3⟩ := vd_iff.1 k2
  have e1 : (z5.e.toNat - ((e : Int)).toNat) = 0 := by simp [z5]
  have e2 : ((e : Int)).toNat = e := by simp
  have e3 : z5.e.toNat = 0 := rfl
  unfold addS addR
  dsimp only
  rw [e1, e2, e3]
  simp only [z5, raisS, Nat.sub_zero, raisS_0, Int.zero_add, Nat.zero_add, h1, if_true, low_fix h3]
  rfl
theorem mulS_one {z : Bool} {y : D5} (hy : y.ok = true) : mulS z one5 y = (y, z) := by
  obtain ⟨a, b, c, d, e'⟩ := y
  obtain ⟨e, k1, k2⟩ := ok_nat hy
  dsimp only at k1 k2
  subst k1
  obtain ⟨h1, h2, h3⟩ := vd_iff.1 k2
  have e2 : ((e : Int)).toNat = e := by simp
  have e3 : one5.e.toNat = 0 := rfl
  have m0' : ∀ p q r s : Int, m0 1 0 0 0 p q r s = p := by intros; simp [m0]
  have m1' : ∀ p q r s : Int, m1 1 0 0 0 p q r s = q := by intros; simp [m1]
  have m2' : ∀ p q r s : Int, m2 1 0 0 0 p q r s = r := by intros; simp [m2]
  have m3' : ∀ p q r s : Int, m3 1 0 0 0 p q r s = s := by intros; simp [m3]
  unfold mulS
  dsimp only
  rw [e2, e3]
  simp only [one5, m0', m1', m2', m3', Nat.zero_add, h1, h2, if_true, low_fix h3]
  rfl
end Go.Proofs.Ytofclfgaekjonaa
