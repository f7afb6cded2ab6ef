/- The matrix of a gate: its numbers. -/
import Derived.Test.YtncgccpkbneagaaTu
import Derived.Test.YtncgccpkbneagaaGmA
import Derived.Test.YtncgccpkbneagaaZtab
import Derived.Test.YtncgccpkbneagaaVm1
namespace Go.Proofs.Ytncgccpkbneagaa
open Go.RowKit RM
set_option linter.unusedVariables false
set_option linter.unusedSimpArgs false
attribute [local irreducible] World.setCell

open GM
theorem divG {Q i r : Nat} (h : r < Q) : (i * Q + r) / Q = i ∧ (i * Q + r) % Q = r := by
  have hQ : 0 < Q := by omega
  rw [Nat.add_comm, Nat.add_mul_div_right _ _ hQ, Nat.add_mul_mod_self_right, Nat.div_eq_of_lt h, Nat.mod_eq_of_lt h, Nat.zero_add]; exact ⟨rfl, rfl⟩
/-- a power of w by a power of the square root of 2 -/
def cellD (m e : Nat) : D5 := ⟨(turn m one5).a, (turn m one5).b, (turn m one5).c, (turn m one5).d, (e : Int)⟩
/-- a cell by its code -/
def cellC (k : Nat) : D5 := if k = 0 then z5 else cellD ((k - 1) % 8) ((k - 1) / 8)
theorem cellC_at {m e : Nat} (h : m < 8) : cellC (1 + m + 8 * e) = cellD m e := by
  unfold cellC
  rw [if_neg (by omega), show (1 + m + 8 * e - 1) % 8 = m by omega, show (1 + m + 8 * e - 1) / 8 = e by omega]
/-- a cell of a column, of whose terms t are written -/
def cmF (F M : Nat → Nat → Nat) (e : Nat) : Nat → Nat → Nat → D5
  | 0, _, _ => z5
  | t + 1, c, r => if r = F t c then cellD (M t c) e else cmF F M e t c r
def gP (F M : Nat → Nat → Nat) (e D L j t q : Nat) : D5 := if q % D < j then cmF F M e L (q % D) (q / D) else if q % D = j then cmF F M e t (q % D) (q / D) else z5
theorem gP_0 (F M : Nat → Nat → Nat) (e D L n : Nat) : tab n (gP F M e D L 0 0) = List.replicate n z5 := by
  rw [tab_repl]
  refine tab_congr (fun q _ => ?_)
  unfold gP
  rw [if_neg (by omega)]
  split <;> rfl
theorem gP_set {F M : Nat → Nat → Nat} {e D L j t k n : Nat} (hj : j < D) (hk : k = F t j * D + j) (hkn : k < n) : (tab n (gP F M e D L j t)).set k (cellD (M t j) e) = tab n (gP F M e D L j (t + 1)) := by
  rw [tab_set hkn]
  have hd := divG (Q := D) (i := F t j) (r := j) hj
  rw [← hk] at hd
  refine tab_congr (fun q hq => ?_)
  by_cases e : q = k
  · subst e
    rw [if_pos rfl]
    unfold gP
    rw [hd.1, hd.2, if_neg (by omega), if_pos rfl]
    show _ = (if F t j = F t j then _ else _)
    rw [if_pos rfl]
  · rw [if_neg e]
    unfold gP
    by_cases h1 : q % D < j
    · rw [if_pos h1, if_pos h1]
    · rw [if_neg h1, if_neg h1]
      by_cases h2 : q % D = j
      · rw [if_pos h2, if_pos h2]
        show _ = (if q / D = F t (q % D) then _ else _)
        rw [if_neg]
        intro h3
        apply e
        have := Nat.div_add_mod q D
        rw [h3, h2, Nat.mul_comm] at this
        rw [hk]; exact this.symm
      · rw [if_neg h2, if_neg h2]
theorem gP_next (F M : Nat → Nat → Nat) (e D L j n : Nat) : tab n (gP F M e D L j L) = tab n (gP F M e D L (j + 1) 0) := by
  refine tab_congr (fun q _ => ?_)
  unfold gP
  by_cases h1 : q % D < j
  · rw [if_pos h1, if_pos (by omega)]
  · rw [if_neg h1]
    by_cases h2 : q % D = j
    · rw [if_pos h2, if_pos (by omega)]
    · rw [if_neg h2, if_neg (by omega)]
      split <;> rfl
theorem gP_all {F M : Nat → Nat → Nat} {e D L n : Nat} (hD : 0 < D) : tab n (gP F M e D L D 0) = tab n (fun q => cmF F M e L (q % D) (q / D)) := by
  refine tab_congr (fun q _ => ?_)
  unfold gP
  rw [if_pos (Nat.mod_lt _ hD)]
theorem pow_dim {n D : Nat} (h1 : 1 ≤ n) (h5 : n ≤ 5) (hD : D = 2 ^ n) : 2 ≤ D ∧ D ≤ 32 ∧ wrap64 ((2 : Int) ^ n) = (D : Int) ∧ IntKind.i64.wrap ((2 : Int) ^ n) = (D : Int) ∧ dimB (D : Int) = true := by
  have : n = 1 ∨ n = 2 ∨ n = 3 ∨ n = 4 ∨ n = 5 := by omega
  rcases this with rfl | rfl | rfl | rfl | rfl <;> subst hD <;> exact ⟨by decide, by decide, by decide +kernel, by decide +kernel, by decide⟩

end Go.Proofs.Ytncgccpkbneagaa
