/- MuM -/
import Derived.Test.YtnjckeadcbfogaaZq30
import Derived.Test.YtnjckeadcbfogaaZq29
namespace Go.Proofs.Ytnjckeadcbfogaa
open Go.RowKit RM
set_option linter.unusedVariables false
set_option linter.unusedSimpArgs false
attribute [local irreducible] World.setCell

theorem mmT_ok {ca cb : Nat} {xs ys : List D5} {i j k : Nat} (hx : allB xs = true) (hy : allB ys = true) (hX : ∀ k, k < ca → i * ca + k < xs.length) (hY : ∀ k, k < ca → k * cb + j < ys.length) (hk : k ≤ ca) : (mmT ca cb xs ys i j false k).1.ok = true := by
  induction k with
  | zero => exact z5_ok
  | succ k ih =>
    have h1 := ih (by omega)
    show (if (mmT ca cb xs ys i j false k).2 then mmT ca cb xs ys i j false k else _).1.ok = true
    split
    · exact h1
    · exact addS_ok h1 (mulS_ok (all_get hx (get_of (hX k (by omega)))) (all_get hy (get_of (hY k (by omega)))))
/-- the sums as far as they are formed: rows before i whole, row i up to k -/
def mmP (ca cb : Nat) (xs ys : List D5) (i k q : Nat) : D5 := if q / cb < i then (mmT ca cb xs ys (q / cb) (q % cb) false ca).1 else if q / cb = i then (mmT ca cb xs ys (q / cb) (q % cb) false k).1 else z5
theorem mmP_0 (ca cb : Nat) (xs ys : List D5) (N : Nat) : tab N (mmP ca cb xs ys 0 0) = List.replicate N z5 := by
  rw [tab_repl]
  refine tab_congr (fun q _ => ?_)
  unfold mmP
  rw [if_neg (Nat.not_lt_zero _)]
  split <;> rfl
theorem mmP_row (ca cb : Nat) (xs ys : List D5) (N i : Nat) : tab N (mmP ca cb xs ys i ca) = tab N (mmP ca cb xs ys (i + 1) 0) := by
  refine tab_congr (fun q _ => ?_)
  unfold mmP
  by_cases h1 : q / cb < i
  · rw [if_pos h1, if_pos (by omega)]
  · rw [if_neg h1]
    by_cases h2 : q / cb = i
    · rw [if_pos h2, if_pos (by omega)]
    · rw [if_neg h2, if_neg (by omega)]
      split <;> rfl
theorem mmP_end {ca cb : Nat} {xs ys : List D5} {N R : Nat} (hN : N = R * cb) : tab N (mmP ca cb xs ys R 0) = tab N (mmF ca cb xs ys) := by
  refine tab_congr (fun q hq => ?_)
  unfold mmP mmF
  rw [if_pos (Nat.div_lt_of_lt_mul (by rw [Nat.mul_comm, ← hN]; exact hq))]
theorem mmP_at {ca cb i j k : Nat} {xs ys : List D5} (hj : j < cb) : mmP ca cb xs ys i k (i * cb + j) = (mmT ca cb xs ys i j false k).1 := by
  unfold mmP
  rw [(divQ hj).1, (divQ hj).2, if_neg (by omega), if_pos rfl]
theorem mmP_far {ca cb i k q : Nat} {xs ys : List D5} (h : q / cb ≠ i) : mmP ca cb xs ys i (k + 1) q = mmP ca cb xs ys i k q := by
  unfold mmP
  by_cases h1 : q / cb < i
  · rw [if_pos h1, if_pos h1]
  · rw [if_neg h1, if_neg h1, if_neg h, if_neg h]
theorem row_of {cb i q : Nat} (h : q / cb = i) (hcb : 0 < cb) : ∃ j, j < cb ∧ q = i * cb + j := by
  refine ⟨q % cb, Nat.mod_lt _ hcb, ?_⟩
  rw [← h, Nat.mul_comm, Nat.div_add_mod]
/-- one step: a row of products is added -/
theorem mmP_step {ca cb N i k s : Nat} {xs ys prods : List D5} {x : D5} (hcb : 0 < cb) (hs : s = i * cb) (hx : xs.getD (i * ca + k) z5 = x) (hok : ∀ j, j < cb → (mmT ca cb xs ys i j false k).2 = false) (hm : ∀ j, j < cb → (mulS false x (ys.getD (k * cb + j) z5)).2 = false) (hp : ∀ j, j < cb → prods.getD j z5 = (mulS false x (ys.getD (k * cb + j) z5)).1) :
    tab N (addP (mmP ca cb xs ys i k) prods s cb) = tab N (mmP ca cb xs ys i (k + 1)) ∧ (∀ j, j < cb → (mmT ca cb xs ys i j false (k + 1)).2 = addH (mmP ca cb xs ys i k) prods s j) := by
  have key : ∀ j, j < cb → mmT ca cb xs ys i j false (k + 1) = addS false (mmT ca cb xs ys i j false k).1 (prods.getD j z5) := fun j hj => by
    have h1 : mmT ca cb xs ys i j false k = ((mmT ca cb xs ys i j false k).1, false) := Prod.ext rfl (hok j hj)
    rw [mmT_next h1 hx rfl, hm j hj, hp j hj]
  constructor
  · refine tab_congr (fun q _ => ?_)
    by_cases h : q / cb = i
    · obtain ⟨j, hj, rfl⟩ := row_of h hcb
      unfold addP
      rw [if_pos (by omega), mmP_at hj, mmP_at hj, key j hj, hs, Nat.add_sub_cancel_left]
    · rw [mmP_far h]
      unfold addP
      rw [if_neg (fun hh => h (by
        obtain ⟨h1, h2⟩ := hh
        obtain ⟨j, rfl⟩ := Nat.exists_eq_add_of_le h1
        rw [hs]; exact (divQ (show j < cb by omega)).1))]
  · intro j hj
    unfold addH
    rw [key j hj, hs, mmP_at hj]
theorem mmP_skip {ca cb N i k : Nat} {xs ys : List D5} (hcb : 0 < cb) (hk : k < ca) (hx : xs.getD (i * ca + k) z5 = z5) (hxs : allB xs = true) (hys : allB ys = true) (hX : ∀ k, k < ca → i * ca + k < xs.length) (hY : ∀ j, j < cb → ∀ k, k < ca → k * cb + j < ys.length) (hok : ∀ j, j < cb → (mmT ca cb xs ys i j false k).2 = false) :
    tab N (mmP ca cb xs ys i k) = tab N (mmP ca cb xs ys i (k + 1)) ∧ (∀ j, j < cb → (mmT ca cb xs ys i j false (k + 1)).2 = false) := by
  have key : ∀ j, j < cb → mmT ca cb xs ys i j false (k + 1) = ((mmT ca cb xs ys i j false k).1, false) := fun j hj => by
    have h1 : mmT ca cb xs ys i j false k = ((mmT ca cb xs ys i j false k).1, false) := Prod.ext rfl (hok j hj)
    rw [mmT_next h1 hx rfl, mulS_z (all_get hys (get_of (hY j hj k hk)))]
    dsimp only
    rw [addS_z (mmT_ok hxs hys hX (hY j hj) (Nat.le_of_lt hk))]
  constructor
  · refine tab_congr (fun q _ => ?_)
    by_cases h : q / cb = i
    · obtain ⟨j, hj, rfl⟩ := row_of h hcb
      rw [mmP_at hj, mmP_at hj, key j hj]
    · rw [mmP_far h]
  · intro j hj; rw [key j hj]
theorem mmG_of {ca cb N R i j k : Nat} {xs ys : List D5} (hN : N = R * cb) (hi : i < R) (hj : j < cb) (hk : k ≤ ca) (h : (mmT ca cb xs ys i j false k).2 = true) : anyB N (mmG ca cb xs ys) = true := by
  refine anyB_of (q := i * cb + j) (by rw [hN]; exact idx_lt hi hj) ?_
  rw [(mm_at hj).2]; exact mmT_up h hk
theorem anyB_ex {j : Nat} {G : Nat → Bool} (h : anyB j G = true) : ∃ q, q < j ∧ G q = true := by
  unfold anyB at h
  obtain ⟨q, hq, hg⟩ := List.any_eq_true.1 h
  exact ⟨q, List.mem_range.1 hq, hg⟩
theorem addS_bad {x y : D5} {z : Bool} (h : z = true) : (addS z x y).2 = true := by rw [h]; exact addS_t
theorem mmG_mul {ca cb N R i j k : Nat} {xs ys : List D5} {x : D5} (hN : N = R * cb) (hi : i < R) (hj : j < cb) (hk : k < ca) (hx : xs.getD (i * ca + k) z5 = x) (hok : (mmT ca cb xs ys i j false k).2 = false) (h : (mulS false x (ys.getD (k * cb + j) z5)).2 = true) : anyB N (mmG ca cb xs ys) = true := by
  refine mmG_of (k := k + 1) hN hi hj hk ?_
  have h1 : mmT ca cb xs ys i j false k = ((mmT ca cb xs ys i j false k).1, false) := Prod.ext rfl hok
  rw [mmT_next h1 hx rfl]
  exact addS_bad h
theorem mmG_no {ca cb N R : Nat} {xs ys : List D5} (hN : N = R * cb) (hcb : 0 < cb) (h : ∀ i j, i < R → j < cb → (mmT ca cb xs ys i j false ca).2 = false) : anyB N (mmG ca cb xs ys) = false := anyB_f (fun q hq => by
  have h1 : q / cb < R := Nat.div_lt_of_lt_mul (by rw [Nat.mul_comm, ← hN]; exact hq)
  exact h _ _ h1 (Nat.mod_lt _ hcb))
theorem mmP_ok {ca cb i j k : Nat} {xs ys : List D5} (hj : j < cb) (hxs : allB xs = true) (hys : allB ys = true) (hX : ∀ k, k < ca → i * ca + k < xs.length) (hY : ∀ k, k < ca → k * cb + j < ys.length) (hk : k ≤ ca) : (mmP ca cb xs ys i k (i * cb + j)).ok = true := by
  rw [mmP_at hj]; exact mmT_ok hxs hys hX hY hk

end Go.Proofs.Ytnjckeadcbfogaa
