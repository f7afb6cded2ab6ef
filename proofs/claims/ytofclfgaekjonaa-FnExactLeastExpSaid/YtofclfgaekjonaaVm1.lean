/- Contracts of the tests of dimensions and of single numbers. -/
import Derived.Test.YtofclfgaekjonaaLs3
import Derived.Test.YtofclfgaekjonaaDyV
namespace Go.Proofs.Ytofclfgaekjonaa
open Go.RowKit RM
set_option linter.unusedVariables false
set_option linter.unusedSimpArgs false
attribute [local irreducible] World.setCell

/-- all numbers are valid -/
def allB (xs : List D5) : Bool := xs.all D5.ok
/-- a dimension: a power of two from 1 to 32 -/
def dimB (n : Int) : Bool := n == 1 || n == 2 || n == 4 || n == 8 || n == 16 || n == 32
theorem dimB_cases {n : Int} (h : dimB n = true) : n = 1 ∨ n = 2 ∨ n = 4 ∨ n = 8 ∨ n = 16 ∨ n = 32 := by
  unfold dimB at h; simpa [or_assoc] using h
theorem dimB_f {n : Int} (h : dimB n = false) : n ≠ 1 ∧ n ≠ 2 ∧ n ≠ 4 ∧ n ≠ 8 ∧ n ≠ 16 ∧ n ≠ 32 := by
  unfold dimB at h; simpa [and_assoc] using h
/-- a matrix that is valid -/
def okM (r c : Int) (n : Nat) (xs : List D5) : Bool := dimB r && dimB c && decide ((n : Int) = r * c) && allB xs
theorem okM_iff {r c : Int} {n : Nat} {xs : List D5} : okM r c n xs = true ↔ dimB r = true ∧ dimB c = true ∧ (n : Int) = r * c ∧ allB xs = true := by
  unfold okM; simp [and_assoc]
theorem prod_bd {r c : Int} (hr : dimB r = true) (hc : dimB c = true) : 1 ≤ r ∧ r ≤ 32 ∧ 1 ≤ c ∧ c ≤ 32 ∧ 1 ≤ r * c ∧ r * c ≤ 1024 := by
  rcases dimB_cases hr with rfl | rfl | rfl | rfl | rfl | rfl <;> rcases dimB_cases hc with rfl | rfl | rfl | rfl | rfl | rfl <;> decide
theorem all_get {xs : List D5} (h : allB xs = true) {k : Nat} {x : D5} (hx : xs[k]? = some x) : x.ok = true := List.all_eq_true.1 h x (List.mem_of_getElem? hx)
theorem all_not {xs : List D5} {k : Nat} {x : D5} (hx : xs[k]? = some x) (h : x.ok = false) : allB xs = false := by
  cases hq : allB xs
  · rfl
  · rw [all_get hq hx] at h; cases h
theorem take_all {xs : List D5} {j : Nat} {x : D5} (hx : xs[j]? = some x) (h : allB (xs.take j) = true) (hk : x.ok = true) : allB (xs.take (j + 1)) = true := by
  have hj := (List.getElem?_eq_some_iff.1 hx).1
  have hv := (List.getElem?_eq_some_iff.1 hx).2
  unfold allB at h ⊢
  rw [List.take_succ_eq_append_getElem hj, hv, List.all_append, h]
  simp [hk]
theorem gd_t {x : D5} (h : x.ok = true) (w : World) : Calls Try.prog 107 #[x.v] w fun ee w' => ee = .returned (.bool true) ∧ Below w.heap.size w w' := by
  obtain ⟨a, b, c, d, e'⟩ := x
  obtain ⟨e, h1, h2⟩ := ok_nat h
  dsimp only at h1 h2
  subst h1
  exact g2_t w h2
theorem gd_f {x : D5} (h : x.ok = false) (w : World) : Calls Try.prog 107 #[x.v] w fun ee w' => ee = .returned (.bool false) ∧ Below w.heap.size w w' := by
  obtain ⟨a, b, c, d, e⟩ := x
  exact g2_no w (by unfold D5.ok at h; exact h)
theorem id_t {x : D5} (h : x.ok = true) (w : World) : Calls Try.prog 71 #[x.v] w fun ee w' => ee = .returned (.bool true) ∧ Below w.heap.size w w' := by
  obtain ⟨a, b, c, d, e'⟩ := x
  obtain ⟨e, h1, h2⟩ := ok_nat h
  dsimp only at h1 h2
  subst h1
  exact ivd_v w h2
theorem id_f {x : D5} (h : x.ok = false) (w : World) : Calls Try.prog 71 #[x.v] w fun ee w' => ee = .returned (.bool false) ∧ Below w.heap.size w w' := by
  obtain ⟨a, b, c, d, e⟩ := x
  exact ivd_no w (by unfold D5.ok at h; exact h)

set_option maxRecDepth 100000 in
set_option maxHeartbeats 4000000 in
theorem dm_s_t {n : Int} (h : dimB n = true) (w : World) :
    Calls Try.prog 106 #[.int .i64 n] w fun ee w' => ee = .returned (.bool true) ∧ Below w.heap.size w w' := by
  rcases dimB_cases h with rfl | rfl | rfl | rfl | rfl | rfl
  all_goals
    go_enter Try.func106, Try.ntmps106
    go_wp2_with (go_in)
    go_rounds 7
    go_ret
    refine ⟨rfl, ?_⟩
    (repeat' (first | (with_reducible exact Below.refl _ _) | (with_reducible assumption) | (with_reducible refine Below.alloc ?_ ?_ _) | (with_reducible refine Below.drew ?_) | (with_reducible refine below_drewN ?_ _) | (with_reducible refine Below.setCell ?_ ?_ _) | (with_reducible refine chain ?_ (by assumption) ?_) | omega | (simp; done) | (simp; omega)))

set_option maxRecDepth 100000 in
set_option maxHeartbeats 4000000 in
theorem dm_s_f {n : Int} (h : dimB n = false) (w : World) :
    Calls Try.prog 106 #[.int .i64 n] w fun ee w' => ee = .returned (.bool false) ∧ Below w.heap.size w w' := by
  obtain ⟨h1, h2, h3, h4, h5, h6⟩ := dimB_f h
  have e1 : ((1 : Int) == n) = false := by simp; omega
  have e2 : ((2 : Int) == n) = false := by simp; omega
  have e3 : ((4 : Int) == n) = false := by simp; omega
  have e4 : ((8 : Int) == n) = false := by simp; omega
  have e5 : ((16 : Int) == n) = false := by simp; omega
  have e6 : ((32 : Int) == n) = false := by simp; omega
  clear h h1 h2 h3 h4 h5 h6
  go_enter Try.func106, Try.ntmps106
  go_wp2_with (go_in)
  go_rounds 7
  go_ret
  refine ⟨rfl, ?_⟩
  (repeat' (first | (with_reducible exact Below.refl _ _) | (with_reducible assumption) | (with_reducible refine Below.alloc ?_ ?_ _) | (with_reducible refine Below.drew ?_) | (with_reducible refine below_drewN ?_ _) | (with_reducible refine Below.setCell ?_ ?_ _) | (with_reducible refine chain ?_ (by assumption) ?_) | omega | (simp; done) | (simp; omega)))

set_option maxRecDepth 100000 in
set_option maxHeartbeats 8000000 in
theorem dm_i (n : Int) (w : World) :
    Calls Try.prog 110 #[.int .i64 n] w fun ee w' => ee = .returned (.bool (dimB n)) ∧ Below w.heap.size w w' := by
  by_cases h0 : 1 ≤ n
  · by_cases h1 : n ≤ 32
    · have : n = 1 ∨ n = 2 ∨ n = 3 ∨ n = 4 ∨ n = 5 ∨ n = 6 ∨ n = 7 ∨ n = 8 ∨ n = 9 ∨ n = 10 ∨ n = 11 ∨ n = 12 ∨ n = 13 ∨ n = 14 ∨ n = 15 ∨ n = 16 ∨ n = 17 ∨ n = 18 ∨ n = 19 ∨ n = 20 ∨ n = 21 ∨ n = 22 ∨ n = 23 ∨ n = 24 ∨ n = 25 ∨ n = 26 ∨ n = 27 ∨ n = 28 ∨ n = 29 ∨ n = 30 ∨ n = 31 ∨ n = 32 := by omega
      rcases this with rfl | rfl | rfl | rfl | rfl | rfl | rfl | rfl | rfl | rfl | rfl | rfl | rfl | rfl | rfl | rfl | rfl | rfl | rfl | rfl | rfl | rfl | rfl | rfl | rfl | rfl | rfl | rfl | rfl | rfl | rfl | rfl
      all_goals
        clear h0 h1
        go_enter Try.func110, Try.ntmps110
        go_wp2_with (fail)
        go_ret
        exact ⟨rfl, by (repeat' (first | (with_reducible exact Below.refl _ _) | (with_reducible assumption) | (with_reducible refine Below.alloc ?_ ?_ _) | (with_reducible refine Below.drew ?_) | (with_reducible refine below_drewN ?_ _) | (with_reducible refine Below.setCell ?_ ?_ _) | (with_reducible refine chain ?_ (by assumption) ?_) | omega | (simp; done) | (simp; omega)))⟩
    · have hd : dimB n = false := by unfold dimB; simp; omega
      rw [hd]
      have h2 : decide (n ≤ 32) = false := by simp; omega
      go_enter Try.func110, Try.ntmps110
      go_wp2_with (fail)
      go_ret
      exact ⟨rfl, by (repeat' (first | (with_reducible exact Below.refl _ _) | (with_reducible assumption) | (with_reducible refine Below.alloc ?_ ?_ _) | (with_reducible refine Below.drew ?_) | (with_reducible refine below_drewN ?_ _) | (with_reducible refine Below.setCell ?_ ?_ _) | (with_reducible refine chain ?_ (by assumption) ?_) | omega | (simp; done) | (simp; omega)))⟩
  · have hd : dimB n = false := by unfold dimB; simp; omega
    rw [hd]
    have h2 : decide (1 ≤ n) = false := by simp; omega
    go_enter Try.func110, Try.ntmps110
    go_wp2_with (fail)
    go_ret
    exact ⟨rfl, by (repeat' (first | (with_reducible exact Below.refl _ _) | (with_reducible assumption) | (with_reducible refine Below.alloc ?_ ?_ _) | (with_reducible refine Below.drew ?_) | (with_reducible refine below_drewN ?_ _) | (with_reducible refine Below.setCell ?_ ?_ _) | (with_reducible refine chain ?_ (by assumption) ?_) | omega | (simp; done) | (simp; omega)))⟩
theorem dm_i_t {n : Int} (h : dimB n = true) (w : World) : Calls Try.prog 110 #[.int .i64 n] w fun ee w' => ee = .returned (.bool true) ∧ Below w.heap.size w w' := by
  have := dm_i n w; rw [h] at this; exact this
theorem dm_i_f {n : Int} (h : dimB n = false) (w : World) : Calls Try.prog 110 #[.int .i64 n] w fun ee w' => ee = .returned (.bool false) ∧ Below w.heap.size w w' := by
  have := dm_i n w; rw [h] at this; exact this

end Go.Proofs.Ytofclfgaekjonaa
