/- Lists of numbers given by a function of the index; rows that a call appends to. -/
import Derived.Test.YtofclfgaekjonaaSl
namespace Go.Proofs.Ytofclfgaekjonaa
open Go.RowKit RM
set_option linter.unusedVariables false
set_option linter.unusedSimpArgs false
def tab (n : Nat) (f : Nat → D5) : List D5 := (List.range n).map f
theorem tab_len (n : Nat) (f : Nat → D5) : (tab n f).length = n := by simp [tab]
theorem tab_succ (n : Nat) (f : Nat → D5) : tab (n + 1) f = tab n f ++ [f n] := by simp [tab, List.range_succ]
theorem tab_zero (f : Nat → D5) : tab 0 f = [] := rfl
theorem tab_get {n : Nat} {f : Nat → D5} {k : Nat} (h : k < n) : (tab n f)[k]? = some (f k) := by simp [tab, h]
theorem tab_congr {n : Nat} {f g : Nat → D5} (h : ∀ q, q < n → f q = g q) : tab n f = tab n g := by
  unfold tab
  exact List.map_congr_left (fun q hq => h q (List.mem_range.1 hq))
theorem tab_set {n : Nat} {f : Nat → D5} {k : Nat} {v : D5} (h : k < n) : (tab n f).set k v = tab n (fun q => if q = k then v else f q) := by
  apply List.ext_getElem?
  intro q
  by_cases hq : q < n
  · rw [List.getElem?_set, tab_get hq, tab_len]
    by_cases hk : k = q
    · subst hk; rw [tab_get h]; simp [h]
    · rw [if_neg hk, tab_get hq, if_neg (fun e => hk e.symm)]
  · rw [List.getElem?_eq_none (by rw [List.length_set, tab_len]; omega), List.getElem?_eq_none (by rw [tab_len]; omega)]
theorem tab_repl (n : Nat) : List.replicate n z5 = tab n (fun _ => z5) := by
  unfold tab
  rw [List.map_const']
  simp
theorem list_tab (xs : List D5) : xs = tab xs.length (fun q => xs.getD q z5) := by
  apply List.ext_getElem?
  intro q
  by_cases hq : q < xs.length
  · rw [tab_get hq, List.getD_eq_getElem?_getD, List.getElem?_eq_getElem hq]; rfl
  · rw [List.getElem?_eq_none (by omega), List.getElem?_eq_none (by rw [tab_len]; omega)]
theorem getD_of {xs : List D5} {q : Nat} {x : D5} (h : xs[q]? = some x) : xs.getD q z5 = x := by rw [List.getD_eq_getElem?_getD, h]; rfl
theorem get_of {xs : List D5} {q : Nat} (h : q < xs.length) : xs[q]? = some (xs.getD q z5) := by rw [List.getD_eq_getElem?_getD, List.getElem?_eq_getElem h]; rfl
theorem Rd.far {W : World} {A : Option Addr} {xs : List D5} (h : Rd W A xs) {p : Addr} (hp : ∀ a, A = some a → a.block ≠ p.block) (u : Value) : Rd (W.setCell p u) A xs := h.at_ fun a ha => Below.heap_setCell _ _ _ _ (hp a ha)
theorem Bk.made' {W : World} {t : TypeId} {n b : Nat} (hb : b = W.heap.size) : Bk (W.alloc (.cells (csL (List.replicate n z5)).toArray t)) b t (List.replicate n z5) := by subst hb; exact Bk.made W t n
/-- a slice value that owns these numbers -/
def Own5 (W : World) (base : Nat) (t : TypeId) (v : Value) (xs : List D5) : Prop := W.ownsRow base t 5 v xs.length (csL xs)
theorem Own5.nil (W : World) (base : Nat) (t : TypeId) : Own5 W base t (.slice none 0 0) [] := World.ownsRow_nil W base t 5
theorem Own5.form {W : World} {base : Nat} {t : TypeId} {v : Value} {xs : List D5} (h : Own5 W base t v xs) : ∃ A cp, v = .slice A xs.length cp ∧ Rd W A xs ∧ (∀ a, A = some a → base ≤ a.block ∧ a.block < W.heap.size) := by
  have hlt := World.ownsRow.lt h
  rcases h.2 with ⟨hv, h0⟩ | ⟨g, cap, cur, hv, hb, hg, hnc, hcm, hcs, htake⟩
  · have hx : xs = [] := List.eq_nil_of_length_eq_zero h0
    subst hx
    exact ⟨none, 0, hv, Rd.nil _ _, fun a ha => by cases ha⟩
  · refine ⟨some ⟨g, 0, none⟩, cap, hv, ?_, fun a ha => by simp only [Option.some.injEq] at ha; subst ha; exact hlt g (by rw [hv]; rfl)⟩
    have hc := World.ownsRow.cells h (g := g) (by rw [hv]; rfl)
    intro k x hk
    obtain ⟨h0, h1, h2, h3, h4⟩ := csL_get hk
    refine ⟨g, 0, rfl, ?_⟩
    have e := fun j => addr_add g 0 j
    exact ⟨by have := hc _ _ h0; rw [e] at this; exact this, by have := hc _ _ h1; rw [e] at this; exact this, by have := hc _ _ h2; rw [e] at this; exact this, by have := hc _ _ h3; rw [e] at this; exact this, by have := hc _ _ h4; rw [e] at this; exact this⟩
theorem Own5.kept {W W' : World} {base : Nat} {t : TypeId} {v : Value} {xs : List D5} {row : Option Nat} (h : Own5 W base t v xs) (hg : W.grownBy W' row) (hne : v.ownBlock = none ∨ v.ownBlock ≠ row) : Own5 W' base t v xs := World.ownsRow.kept h hg hne
theorem Own5.mono {W W' : World} {base : Nat} {t : TypeId} {v : Value} {xs : List D5} (h : Own5 W base t v xs) (hb : Below W.heap.size W W') : Own5 W' base t v xs :=
  h.kept (row := none) (grown_below hb) (by cases v.ownBlock <;> simp)
theorem Own5.far {W : World} {base : Nat} {t : TypeId} {v : Value} {xs : List D5} (h : Own5 W base t v xs) {p : Addr} (hp : p.block < base) (u : Value) : Own5 (W.setCell p u) base t v xs := ownsRow_setCell_below h hp u
theorem Own5.drew {W : World} {base : Nat} {t : TypeId} {v : Value} {xs : List D5} (h : Own5 W base t v xs) : Own5 W.drew base t v xs := h
theorem Own5.snoc {W' : World} {base : Nat} {t : TypeId} {v' : Value} {xs : List D5} {n : Nat} {x : D5} (hn : xs.length = n) (h : W'.ownsRow base t 5 v' (n + 1) (csL xs ++ x.cs)) : Own5 W' base t v' (xs ++ [x]) := by
  unfold Own5
  rw [csL_app, List.length_append, hn]
  have : csL [x] = x.cs := by simp [csL]
  rw [this]
  exact h
end Go.Proofs.Ytofclfgaekjonaa
