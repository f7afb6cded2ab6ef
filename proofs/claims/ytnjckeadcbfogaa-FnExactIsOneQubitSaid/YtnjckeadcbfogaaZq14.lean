/- Vm1, HeldB, CutG, Tab -/
import Derived.Test.YtnjckeadcbfogaaZq12
import Derived.Test.YtnjckeadcbfogaaZq9
import Derived.Test.YtnjckeadcbfogaaZq1
import Derived.Deep.RegionHeld3
import Derived.Deep.DeepCutAuto
import Derived.Test.YtnjckeadcbfogaaZq10
namespace Go.Proofs.Ytnjckeadcbfogaa
open Go.RowKit RM
set_option linter.unusedVariables false
set_option linter.unusedSimpArgs false
attribute [local irreducible] World.setCell

/-- all numbers are valid -/
def allB (xs : List D5) : Bool := xs.all D5.ok
/-- a dimension: a power of two from 1 to 32 -/
def dimB (n : Int) : Bool := n == 1 || n == 2 || n == 4 || n == 8 || n == 16 || n == 32
theorem dimB_cases {n : Int} (h : dimB n = true) : n = 1 ∨ n = 2 ∨ n = 4 ∨ n = 8 ∨ n = 16 ∨ n = 32 := by
  unfold dimB at h; simpa [or_assoc] using h
theorem dimB_f {n : Int} (h : dimB n = false) : n ≠ 1 ∧ n ≠ 2 ∧ n ≠ 4 ∧ n ≠ 8 ∧ n ≠ 16 ∧ n ≠ 32 := by
  unfold dimB at h; simpa [and_assoc] using h
/-- a matrix that is valid -/
def okM (r c : Int) (n : Nat) (xs : List D5) : Bool := dimB r && dimB c && decide ((n : Int) = r * c) && allB xs
theorem okM_iff {r c : Int} {n : Nat} {xs : List D5} : okM r c n xs = true ↔ dimB r = true ∧ dimB c = true ∧ (n : Int) = r * c ∧ allB xs = true := by
  unfold okM; simp [and_assoc]
theorem prod_bd {r c : Int} (hr : dimB r = true) (hc : dimB c = true) : 1 ≤ r ∧ r ≤ 32 ∧ 1 ≤ c ∧ c ≤ 32 ∧ 1 ≤ r * c ∧ r * c ≤ 1024 := by
  rcases dimB_cases hr with rfl | rfl | rfl | rfl | rfl | rfl <;> rcases dimB_cases hc with rfl | rfl | rfl | rfl | rfl | rfl <;> decide
theorem all_get {xs : List D5} (h : allB xs = true) {k : Nat} {x : D5} (hx : xs[k]? = some x) : x.ok = true := List.all_eq_true.1 h x (List.mem_of_getElem? hx)
theorem all_not {xs : List D5} {k : Nat} {x : D5} (hx : xs[k]? = some x) (h : x.ok = false) : allB xs = false := by
  cases hq : allB xs
  · rfl
  · rw [all_get hq hx] at h; cases h
theorem take_all {xs : List D5} {j : Nat} {x : D5} (hx : xs[j]? = some x) (h : allB (xs.take j) = true) (hk : x.ok = true) : allB (xs.take (j + 1)) = true := by
  have hj := (List.getElem?_eq_some_iff.1 hx).1
  have hv := (List.getElem?_eq_some_iff.1 hx).2
  unfold allB at h ⊢
  rw [List.take_succ_eq_append_getElem hj, hv, List.all_append, h]
  simp [hk]
theorem gd_t {x : D5} (h : x.ok = true) (w : World) : Calls Try.prog 142 #[x.v] w fun ee w' => ee = .returned (.bool true) ∧ Below w.heap.size w w' := by
  obtain ⟨a, b, c, d, e'⟩ := x
  obtain ⟨e, h1, h2⟩ := ok_nat h
  dsimp only at h1 h2
  subst h1
  exact g2_t w h2
theorem gd_f {x : D5} (h : x.ok = false) (w : World) : Calls Try.prog 142 #[x.v] w fun ee w' => ee = .returned (.bool false) ∧ Below w.heap.size w w' := by
  obtain ⟨a, b, c, d, e⟩ := x
  exact g2_no w (by unfold D5.ok at h; exact h)
theorem id_t {x : D5} (h : x.ok = true) (w : World) : Calls Try.prog 127 #[x.v] w fun ee w' => ee = .returned (.bool true) ∧ Below w.heap.size w w' := by
  obtain ⟨a, b, c, d, e'⟩ := x
  obtain ⟨e, h1, h2⟩ := ok_nat h
  dsimp only at h1 h2
  subst h1
  exact ivd_v w h2
theorem id_f {x : D5} (h : x.ok = false) (w : World) : Calls Try.prog 127 #[x.v] w fun ee w' => ee = .returned (.bool false) ∧ Below w.heap.size w w' := by
  obtain ⟨a, b, c, d, e⟩ := x
  exact ivd_no w (by unfold D5.ok at h; exact h)

set_option maxRecDepth 100000 in
set_option maxHeartbeats 4000000 in
theorem dm_s_t {n : Int} (h : dimB n = true) (w : World) :
    Calls Try.prog 141 #[.int .i64 n] w fun ee w' => ee = .returned (.bool true) ∧ Below w.heap.size w w' := by
  rcases dimB_cases h with rfl | rfl | rfl | rfl | rfl | rfl
  all_goals
    go_enter Try.func141, Try.ntmps141
    go_wp2_with (go_in)
    go_rounds 7
    go_ret
    refine ⟨rfl, ?_⟩
    (repeat' (first | (with_reducible exact Below.refl _ _) | (with_reducible assumption) | (with_reducible refine Below.alloc ?_ ?_ _) | (with_reducible refine Below.drew ?_) | (with_reducible refine below_drewN ?_ _) | (with_reducible refine Below.setCell ?_ ?_ _) | (with_reducible refine chain ?_ (by assumption) ?_) | omega | (simp; done) | (simp; omega)))

set_option maxRecDepth 100000 in
set_option maxHeartbeats 4000000 in
theorem dm_s_f {n : Int} (h : dimB n = false) (w : World) :
    Calls Try.prog 141 #[.int .i64 n] w fun ee w' => ee = .returned (.bool false) ∧ Below w.heap.size w w' := by
  obtain ⟨h1, h2, h3, h4, h5, h6⟩ := dimB_f h
  have e1 : ((1 : Int) == n) = false := by simp; omega
  have e2 : ((2 : Int) == n) = false := by simp; omega
  have e3 : ((4 : Int) == n) = false := by simp; omega
  have e4 : ((8 : Int) == n) = false := by simp; omega
  have e5 : ((16 : Int) == n) = false := by simp; omega
  have e6 : ((32 : Int) == n) = false := by simp; omega
  clear h h1 h2 h3 h4 h5 h6
  go_enter Try.func141, Try.ntmps141
  go_wp2_with (go_in)
  go_rounds 7
  go_ret
  refine ⟨rfl, ?_⟩
  (repeat' (first | (with_reducible exact Below.refl _ _) | (with_reducible assumption) | (with_reducible refine Below.alloc ?_ ?_ _) | (with_reducible refine Below.drew ?_) | (with_reducible refine below_drewN ?_ _) | (with_reducible refine Below.setCell ?_ ?_ _) | (with_reducible refine chain ?_ (by assumption) ?_) | omega | (simp; done) | (simp; omega)))

set_option maxRecDepth 100000 in
set_option maxHeartbeats 8000000 in
theorem dm_i (n : Int) (w : World) :
    Calls Try.prog 144 #[.int .i64 n] w fun ee w' => ee = .returned (.bool (dimB n)) ∧ Below w.heap.size w w' := by
  by_cases h0 : 1 ≤ n
  · by_cases h1 : n ≤ 32
    · have : n = 1 ∨ n = 2 ∨ n = 3 ∨ n = 4 ∨ n = 5 ∨ n = 6 ∨ n = 7 ∨ n = 8 ∨ n = 9 ∨ n = 10 ∨ n = 11 ∨ n = 12 ∨ n = 13 ∨ n = 14 ∨ n = 15 ∨ n = 16 ∨ n = 17 ∨ n = 18 ∨ n = 19 ∨ n = 20 ∨ n = 21 ∨ n = 22 ∨ n = 23 ∨ n = 24 ∨ n = 25 ∨ n = 26 ∨ n = 27 ∨ n = 28 ∨ n = 29 ∨ n = 30 ∨ n = 31 ∨ n = 32 := by omega
      rcases this with rfl | rfl | rfl | rfl | rfl | rfl | rfl | rfl | rfl | rfl | rfl | rfl | rfl | rfl | rfl | rfl | rfl | rfl | rfl | rfl | rfl | rfl | rfl | rfl | rfl | rfl | rfl | rfl | rfl | rfl | rfl | rfl
      all_goals
        clear h0 h1
        go_enter Try.func144, Try.ntmps144
        go_wp2_with (fail)
        go_ret
        exact ⟨rfl, by (repeat' (first | (with_reducible exact Below.refl _ _) | (with_reducible assumption) | (with_reducible refine Below.alloc ?_ ?_ _) | (with_reducible refine Below.drew ?_) | (with_reducible refine below_drewN ?_ _) | (with_reducible refine Below.setCell ?_ ?_ _) | (with_reducible refine chain ?_ (by assumption) ?_) | omega | (simp; done) | (simp; omega)))⟩
    · have hd : dimB n = false := by unfold dimB; simp; omega
      rw [hd]
      have h2 : decide (n ≤ 32) = false := by simp; omega
      go_enter Try.func144, Try.ntmps144
      go_wp2_with (fail)
      go_ret
      exact ⟨rfl, by (repeat' (first | (with_reducible exact Below.refl _ _) | (with_reducible assumption) | (with_reducible refine Below.alloc ?_ ?_ _) | (with_reducible refine Below.drew ?_) | (with_reducible refine below_drewN ?_ _) | (with_reducible refine Below.setCell ?_ ?_ _) | (with_reducible refine chain ?_ (by assumption) ?_) | omega | (simp; done) | (simp; omega)))⟩
  · have hd : dimB n = false := by unfold dimB; simp; omega
    rw [hd]
    have h2 : decide (1 ≤ n) = false := by simp; omega
    go_enter Try.func144, Try.ntmps144
    go_wp2_with (fail)
    go_ret
    exact ⟨rfl, by (repeat' (first | (with_reducible exact Below.refl _ _) | (with_reducible assumption) | (with_reducible refine Below.alloc ?_ ?_ _) | (with_reducible refine Below.drew ?_) | (with_reducible refine below_drewN ?_ _) | (with_reducible refine Below.setCell ?_ ?_ _) | (with_reducible refine chain ?_ (by assumption) ?_) | omega | (simp; done) | (simp; omega)))⟩
theorem dm_i_t {n : Int} (h : dimB n = true) (w : World) : Calls Try.prog 144 #[.int .i64 n] w fun ee w' => ee = .returned (.bool true) ∧ Below w.heap.size w w' := by
  have := dm_i n w; rw [h] at this; exact this
theorem dm_i_f {n : Int} (h : dimB n = false) (w : World) : Calls Try.prog 144 #[.int .i64 n] w fun ee w' => ee = .returned (.bool false) ∧ Below w.heap.size w w' := by
  have := dm_i n w; rw [h] at this; exact this

end Go.Proofs.Ytnjckeadcbfogaa
namespace Go.Proofs.Ytnjckeadcbfogaa
open Go.RowKit
/-- a cell that is there: behind a call, behind a new block, behind a store of four cells into a newer block -/
theorem kc {a b : World} {k o : Nat} {v : Value} (hb : Below a.heap.size a b) (h : a.cell? ⟨k, o, none⟩ = some v) : b.cell? ⟨k, o, none⟩ = some v :=
  ((bcell hb).1 k o (World.block_lt_of_cell? a _ h)).trans h
theorem kal {a : World} {x : Obj} {k o : Nat} {v : Value} (h : a.cell? ⟨k, o, none⟩ = some v) : (a.alloc x).cell? ⟨k, o, none⟩ = some v :=
  kc ((Below.refl _ _).alloc (Nat.le_refl _) _) h
theorem kald {a : World} {x : Obj} {k o : Nat} {v : Value} (h : a.drew.cell? ⟨k, o, none⟩ = some v) : (a.alloc x).drew.cell? ⟨k, o, none⟩ = some v :=
  kal (a := a) h
/-- a store that is folded into the new block -/
theorem kre {a : World} {x y : Obj} {k o : Nat} {v : Value} (hk : k < a.heap.size) (h : (a.alloc x).cell? ⟨k, o, none⟩ = some v) : (a.alloc y).cell? ⟨k, o, none⟩ = some v := by
  rw [World.cell?_alloc_lt _ _ _ hk]
  rw [World.cell?_alloc_lt _ _ _ hk] at h
  exact h
end Go.Proofs.Ytnjckeadcbfogaa
namespace Go.Proofs.Ytnjckeadcbfogaa
open Go.RowKit
theorem kst3 {a : World} {g k o : Nat} {v v0 v1 v2 : Value} (hne : g ≠ k) (h : a.cell? ⟨k, o, none⟩ = some v) : (((a.setCell ⟨g, 0, none⟩ v0).setCell ⟨g, 1, none⟩ v1).setCell ⟨g, 2, none⟩ v2).cell? ⟨k, o, none⟩ = some v := by
  rw [World.cell?_setCell_far _ _ _ _ hne, World.cell?_setCell_far _ _ _ _ hne, World.cell?_setCell_far _ _ _ _ hne, h]
/-- what the slots hold and what the world holds -/
def CutG (R : Prop) (P : Prop) : Prop := R ∧ P
end Go.Proofs.Ytnjckeadcbfogaa
namespace Go.Proofs.Ytnjckeadcbfogaa
open Go.RowKit RM
set_option linter.unusedVariables false
set_option linter.unusedSimpArgs false
def tab (n : Nat) (f : Nat → D5) : List D5 := (List.range n).map f
theorem tab_len (n : Nat) (f : Nat → D5) : (tab n f).length = n := by simp [tab]
theorem tab_succ (n : Nat) (f : Nat → D5) : tab (n + 1) f = tab n f ++ [f n] := by simp [tab, List.range_succ]
theorem tab_get {n : Nat} {f : Nat → D5} {k : Nat} (h : k < n) : (tab n f)[k]? = some (f k) := by simp [tab, h]
theorem tab_congr {n : Nat} {f g : Nat → D5} (h : ∀ q, q < n → f q = g q) : tab n f = tab n g := by
  unfold tab
  exact List.map_congr_left (fun q hq => h q (List.mem_range.1 hq))
theorem tab_set {n : Nat} {f : Nat → D5} {k : Nat} {v : D5} (h : k < n) : (tab n f).set k v = tab n (fun q => if q = k then v else f q) := by
  apply List.ext_getElem?
  intro q
  by_cases hq : q < n
  · rw [List.getElem?_set, tab_get hq, tab_len]
    by_cases hk : k = q
    · subst hk; rw [tab_get h]; simp [h]
    · rw [if_neg hk, tab_get hq, if_neg (fun e => hk e.symm)]
  · rw [List.getElem?_eq_none (by rw [List.length_set, tab_len]; omega), List.getElem?_eq_none (by rw [tab_len]; omega)]
theorem tab_repl (n : Nat) : List.replicate n z5 = tab n (fun _ => z5) := by
  unfold tab
  rw [List.map_const']
  simp
theorem list_tab (xs : List D5) : xs = tab xs.length (fun q => xs.getD q z5) := by
  apply List.ext_getElem?
  intro q
  by_cases hq : q < xs.length
  · rw [tab_get hq, List.getD_eq_getElem?_getD, List.getElem?_eq_getElem hq]; rfl
  · rw [List.getElem?_eq_none (by omega), List.getElem?_eq_none (by rw [tab_len]; omega)]
theorem getD_of {xs : List D5} {q : Nat} {x : D5} (h : xs[q]? = some x) : xs.getD q z5 = x := by rw [List.getD_eq_getElem?_getD, h]; rfl
theorem get_of {xs : List D5} {q : Nat} (h : q < xs.length) : xs[q]? = some (xs.getD q z5) := by rw [List.getD_eq_getElem?_getD, List.getElem?_eq_getElem h]; rfl
theorem Rd.far {W : World} {A : Option Addr} {xs : List D5} (h : Rd W A xs) {p : Addr} (hp : ∀ a, A = some a → a.block ≠ p.block) (u : Value) : Rd (W.setCell p u) A xs := h.at_ fun a ha => Below.heap_setCell _ _ _ _ (hp a ha)
theorem Bk.made' {W : World} {t : TypeId} {n b : Nat} (hb : b = W.heap.size) : Bk (W.alloc (.cells (csL (List.replicate n z5)).toArray t)) b t (List.replicate n z5) := by subst hb; exact Bk.made W t n
/-- a slice value that owns these numbers -/
def Own5 (W : World) (base : Nat) (t : TypeId) (v : Value) (xs : List D5) : Prop := W.ownsRow base t 5 v xs.length (csL xs)
theorem Own5.nil (W : World) (base : Nat) (t : TypeId) : Own5 W base t (.slice none 0 0) [] := World.ownsRow_nil W base t 5
theorem Own5.form {W : World} {base : Nat} {t : TypeId} {v : Value} {xs : List D5} (h : Own5 W base t v xs) : ∃ A cp, v = .slice A xs.length cp ∧ Rd W A xs ∧ (∀ a, A = some a → base ≤ a.block ∧ a.block < W.heap.size) := by
  have hlt := World.ownsRow.lt h
  rcases h.2 with ⟨hv, h0⟩ | ⟨g, cap, cur, hv, hb, hg, hnc, hcm, hcs, htake⟩
  · have hx : xs = [] := List.eq_nil_of_length_eq_zero h0
    subst hx
    exact ⟨none, 0, hv, Rd.nil _ _, fun a ha => by cases ha⟩
  · refine ⟨some ⟨g, 0, none⟩, cap, hv, ?_, fun a ha => by simp only [Option.some.injEq] at ha; subst ha; exact hlt g (by rw [hv]; rfl)⟩
    have hc := World.ownsRow.cells h (g := g) (by rw [hv]; rfl)
    intro k x hk
    obtain ⟨h0, h1, h2, h3, h4⟩ := csL_get hk
    refine ⟨g, 0, rfl, ?_⟩
    have e := fun j => addr_add g 0 j
    exact ⟨by have := hc _ _ h0; rw [e] at this; exact this, by have := hc _ _ h1; rw [e] at this; exact this, by have := hc _ _ h2; rw [e] at this; exact this, by have := hc _ _ h3; rw [e] at this; exact this, by have := hc _ _ h4; rw [e] at this; exact this⟩
theorem Own5.kept {W W' : World} {base : Nat} {t : TypeId} {v : Value} {xs : List D5} {row : Option Nat} (h : Own5 W base t v xs) (hg : W.grownBy W' row) (hne : v.ownBlock = none ∨ v.ownBlock ≠ row) : Own5 W' base t v xs := World.ownsRow.kept h hg hne
theorem Own5.mono {W W' : World} {base : Nat} {t : TypeId} {v : Value} {xs : List D5} (h : Own5 W base t v xs) (hb : Below W.heap.size W W') : Own5 W' base t v xs :=
  h.kept (row := none) (grown_below hb) (by cases v.ownBlock <;> simp)
theorem Own5.far {W : World} {base : Nat} {t : TypeId} {v : Value} {xs : List D5} (h : Own5 W base t v xs) {p : Addr} (hp : p.block < base) (u : Value) : Own5 (W.setCell p u) base t v xs := ownsRow_setCell_below h hp u
theorem Own5.drew {W : World} {base : Nat} {t : TypeId} {v : Value} {xs : List D5} (h : Own5 W base t v xs) : Own5 W.drew base t v xs := h
theorem Own5.snoc {W' : World} {base : Nat} {t : TypeId} {v' : Value} {xs : List D5} {n : Nat} {x : D5} (hn : xs.length = n) (h : W'.ownsRow base t 5 v' (n + 1) (csL xs ++ x.cs)) : Own5 W' base t v' (xs ++ [x]) := by
  unfold Own5
  rw [csL_app, List.length_append, hn]
  have : csL [x] = x.cs := by simp [csL]
  rw [this]
  exact h
end Go.Proofs.Ytnjckeadcbfogaa
