/- QubitWeight as a plain function. -/
import Derived.Test.YtnjckeadcbfogaaAdj
import Derived.Test.YtnjckeadcbfogaaZp17
import Derived.Test.YtnjckeadcbfogaaZp19
namespace Go.Proofs.Ytnjckeadcbfogaa
open Go.RowKit RM
set_option linter.unusedVariables false
set_option linter.unusedSimpArgs false
attribute [local irreducible] World.setCell

open GM
/-- the sum over the basis states in which qubit q is 1 -/
def qwF (n q : Nat) (zs : List D5) : Nat → D5 × Bool
  | 0 => (z5, false)
  | j + 1 => bif (bitI n j q).beq 0 then qwF n q zs j else addS (mulS (qwF n q zs j).2 (zs.getD j z5) (conj5 (zs.getD j z5))).2 (qwF n q zs j).1 (mulS (qwF n q zs j).2 (zs.getD j z5) (conj5 (zs.getD j z5))).1
theorem qwF_skip {n q j : Nat} {zs : List D5} (h : bitI n j q = 0) : qwF n q zs (j + 1) = qwF n q zs j := by
  show (bif (bitI n j q).beq 0 then _ else _) = _
  rw [h]; rfl
theorem qwF_next {n q j : Nat} {zs : List D5} {s x : D5} {z : Bool} (h : bitI n j q = 1) (hs : qwF n q zs j = (s, z)) (hx : zs.getD j z5 = x) : qwF n q zs (j + 1) = addS (mulS z x (conj5 x)).2 s (mulS z x (conj5 x)).1 := by
  show (bif (bitI n j q).beq 0 then _ else _) = _
  rw [h, hs, hx]; rfl
theorem qwF_up {n q : Nat} {zs : List D5} {j k : Nat} (h : (qwF n q zs j).2 = true) (hk : j ≤ k) : (qwF n q zs k).2 = true := by
  obtain ⟨p, rfl⟩ := Nat.exists_eq_add_of_le hk
  clear hk
  induction p with
  | zero => exact h
  | succ p ih =>
    obtain ⟨⟨s, z⟩, hs⟩ : ∃ y, qwF n q zs (j + p) = y := ⟨_, rfl⟩
    rw [hs] at ih
    have ih : z = true := ih
    subst ih
    rcases bitI_01 (n := n) (c := j + p) (q := q) with hb | hb
    · show (qwF n q zs (j + p + 1)).2 = true
      rw [qwF_skip hb, hs]
    · show (qwF n q zs (j + p + 1)).2 = true
      rw [qwF_next hb hs rfl, mulS_t]; exact addS_t
theorem undr {W W' : World} (h : Below W.drew.heap.size W.drew W') : Below W.heap.size W W' := ⟨h.os, h.tape, h.output, h.size, h.block⟩
theorem bit_all : (allN 6 fun n => allN n fun q => allN 32 fun c => decide (bitI n c q = bitS n c q)) = true := by decide +kernel
theorem bit_at {n q c : Nat} (h5 : n ≤ 5) (hq : q < n) (hc : c < 32) : bitI n c q = bitS n c q := of_decide_eq_true (allN_get (allN_get (allN_get bit_all (show n < 6 by omega)) hq) hc)
end Go.Proofs.Ytnjckeadcbfogaa
