/- Flat values in memory: slices that read as lists, blocks of the call's own known whole, blocks of locals; what a call keeps. -/
import Derived.Test.YtofclfgaekjonaaDoorProg
import Derived.Handy
import Derived.LoopTactic
import Derived.Laws.OwnMore
import Derived.Deep.AppendLies
import Derived.Deep.Draws
import Derived.Deep.LoopGhost
import Derived.Laws.CopyOwn
import Derived.IntWalk
import Derived.Deep.RegionHeld3
namespace Go.Proofs.YtofclfgaekjonaaDoor
open Go.RowKit
set_option linter.unusedVariables false
set_option linter.unusedSimpArgs false

/-! worlds -/
/-- a fact kept from the walk -/
theorem lay {p : Prop} (h : p) : Hid p := h
theorem bcl {W w1 : World} (hb : Below W.heap.size W w1) : (∀ b o, b < W.heap.size → w1.cell? ⟨b, o, none⟩ = W.cell? ⟨b, o, none⟩) ∧ (∀ b o, b < W.heap.size → w1.frozen? ⟨b, o, none⟩ = W.frozen? ⟨b, o, none⟩) ∧ W.heap.size ≤ w1.heap.size :=
  ⟨fun b o h => hb.cell (p := ⟨b, o, none⟩) h, fun b o h => hb.frozen (p := ⟨b, o, none⟩) h, hb.size⟩
theorem chn {B C : Nat} {w a b : World} (h : Below B w a) (k : Below C a b) (hB : B ≤ C) : Below B w b := h.trans (k.mono hB)
theorem bdN {B : Nat} {a w : World} (h : Below B a w) (n : Nat) : Below B a (w.drewN n) := h.trans ⟨rfl, rfl, rfl, Nat.le_refl _, fun _ _ => rfl⟩
/-- a cell behind a call -/
theorem kcl {a b : World} {k o : Nat} {v : Value} (hb : Below a.heap.size a b) (h : a.cell? ⟨k, o, none⟩ = some v) : b.cell? ⟨k, o, none⟩ = some v :=
  ((bcl hb).1 k o (World.block_lt_of_cell? a _ h)).trans h
theorem kclAl {a : World} {x : Obj} {k o : Nat} {v : Value} (h : a.cell? ⟨k, o, none⟩ = some v) : (a.alloc x).cell? ⟨k, o, none⟩ = some v :=
  kcl ((Below.refl _ _).alloc (Nat.le_refl _) _) h
theorem frAl {a : World} {x : Obj} {k o : Nat} (hk : k < a.heap.size) (h : a.frozen? ⟨k, o, none⟩ = false) : (a.alloc x).frozen? ⟨k, o, none⟩ = false :=
  ((bcl ((Below.refl a.heap.size a).alloc (Nat.le_refl _) x)).2.1 k o hk).trans h
theorem kclAld {a : World} {x : Obj} {k o : Nat} {v : Value} (h : a.drew.cell? ⟨k, o, none⟩ = some v) : (a.alloc x).drew.cell? ⟨k, o, none⟩ = some v :=
  kclAl (a := a) h
theorem kclRe {a : World} {x y : Obj} {k o : Nat} {v : Value} (hk : k < a.heap.size) (h : (a.alloc x).cell? ⟨k, o, none⟩ = some v) : (a.alloc y).cell? ⟨k, o, none⟩ = some v := by
  rw [World.cell?_alloc_lt _ _ _ hk]
  rw [World.cell?_alloc_lt _ _ _ hk] at h
  exact h
theorem kclS1 {a : World} {g k o o0 : Nat} {v v0 : Value} (hne : g ≠ k) (h : a.cell? ⟨k, o, none⟩ = some v) : (a.setCell ⟨g, o0, none⟩ v0).cell? ⟨k, o, none⟩ = some v := by
  rw [World.cell?_setCell_far _ _ _ _ hne, h]
theorem kclS2 {a : World} {g k o o0 o1 : Nat} {v v0 v1 : Value} (hne : g ≠ k) (h : a.cell? ⟨k, o, none⟩ = some v) : ((a.setCell ⟨g, o0, none⟩ v0).setCell ⟨g, o1, none⟩ v1).cell? ⟨k, o, none⟩ = some v := by
  rw [World.cell?_setCell_far _ _ _ _ hne, World.cell?_setCell_far _ _ _ _ hne, h]
theorem kclS3 {a : World} {g k o o0 o1 o2 : Nat} {v v0 v1 v2 : Value} (hne : g ≠ k) (h : a.cell? ⟨k, o, none⟩ = some v) : (((a.setCell ⟨g, o0, none⟩ v0).setCell ⟨g, o1, none⟩ v1).setCell ⟨g, o2, none⟩ v2).cell? ⟨k, o, none⟩ = some v := by
  rw [World.cell?_setCell_far _ _ _ _ hne, World.cell?_setCell_far _ _ _ _ hne, World.cell?_setCell_far _ _ _ _ hne, h]
theorem kclS4 {a : World} {g k o o0 o1 o2 o3 : Nat} {v v0 v1 v2 v3 : Value} (hne : g ≠ k) (h : a.cell? ⟨k, o, none⟩ = some v) : ((((a.setCell ⟨g, o0, none⟩ v0).setCell ⟨g, o1, none⟩ v1).setCell ⟨g, o2, none⟩ v2).setCell ⟨g, o3, none⟩ v3).cell? ⟨k, o, none⟩ = some v := by
  rw [World.cell?_setCell_far _ _ _ _ hne, World.cell?_setCell_far _ _ _ _ hne, World.cell?_setCell_far _ _ _ _ hne, World.cell?_setCell_far _ _ _ _ hne, h]
theorem kclS5 {a : World} {g k o o0 o1 o2 o3 o4 : Nat} {v v0 v1 v2 v3 v4 : Value} (hne : g ≠ k) (h : a.cell? ⟨k, o, none⟩ = some v) : (((((a.setCell ⟨g, o0, none⟩ v0).setCell ⟨g, o1, none⟩ v1).setCell ⟨g, o2, none⟩ v2).setCell ⟨g, o3, none⟩ v3).setCell ⟨g, o4, none⟩ v4).cell? ⟨k, o, none⟩ = some v := by
  rw [World.cell?_setCell_far _ _ _ _ hne, World.cell?_setCell_far _ _ _ _ hne, World.cell?_setCell_far _ _ _ _ hne, World.cell?_setCell_far _ _ _ _ hne, World.cell?_setCell_far _ _ _ _ hne, h]
theorem kclS6 {a : World} {g k o o0 o1 o2 o3 o4 o5 : Nat} {v v0 v1 v2 v3 v4 v5 : Value} (hne : g ≠ k) (h : a.cell? ⟨k, o, none⟩ = some v) : ((((((a.setCell ⟨g, o0, none⟩ v0).setCell ⟨g, o1, none⟩ v1).setCell ⟨g, o2, none⟩ v2).setCell ⟨g, o3, none⟩ v3).setCell ⟨g, o4, none⟩ v4).setCell ⟨g, o5, none⟩ v5).cell? ⟨k, o, none⟩ = some v := by
  rw [World.cell?_setCell_far _ _ _ _ hne, World.cell?_setCell_far _ _ _ _ hne, World.cell?_setCell_far _ _ _ _ hne, World.cell?_setCell_far _ _ _ _ hne, World.cell?_setCell_far _ _ _ _ hne, World.cell?_setCell_far _ _ _ _ hne, h]
theorem kclS7 {a : World} {g k o o0 o1 o2 o3 o4 o5 o6 : Nat} {v v0 v1 v2 v3 v4 v5 v6 : Value} (hne : g ≠ k) (h : a.cell? ⟨k, o, none⟩ = some v) : (((((((a.setCell ⟨g, o0, none⟩ v0).setCell ⟨g, o1, none⟩ v1).setCell ⟨g, o2, none⟩ v2).setCell ⟨g, o3, none⟩ v3).setCell ⟨g, o4, none⟩ v4).setCell ⟨g, o5, none⟩ v5).setCell ⟨g, o6, none⟩ v6).cell? ⟨k, o, none⟩ = some v := by
  rw [World.cell?_setCell_far _ _ _ _ hne, World.cell?_setCell_far _ _ _ _ hne, World.cell?_setCell_far _ _ _ _ hne, World.cell?_setCell_far _ _ _ _ hne, World.cell?_setCell_far _ _ _ _ hne, World.cell?_setCell_far _ _ _ _ hne, World.cell?_setCell_far _ _ _ _ hne, h]
theorem grwT {a b c : World} {row : Option Nat} (h : a.grownBy b row) (k : b.grownBy c row) : a.grownBy c row :=
  ⟨k.os.trans h.os, k.tape.trans h.tape, k.output.trans h.output, Nat.le_trans h.size k.size, fun i hi hr => (k.block i (Nat.lt_of_lt_of_le hi h.size) hr).trans (h.block i hi hr)⟩
theorem grwB {a b : World} {row : Option Nat} (h : Below a.heap.size a b) : a.grownBy b row := ⟨h.os, h.tape, h.output, h.size, fun k hk _ => h.block k hk⟩
theorem grwAl {w w' : World} {o : Obj} {row : Option Nat} (h : (w.alloc o).grownBy w' row) : w.grownBy w' row := grwT (World.grownBy_alloc w o row) h
theorem adrAdd (g o j : Nat) : (⟨g, o, none⟩ : Addr).add j = ⟨g, o + j, none⟩ := by unfold Addr.add; split <;> simp_all

/-! blocks of locals, known whole -/
def Bb (W : World) (b : Nat) (t : TypeId) (cs : Array Value) : Prop := W.heap[b]? = some (.cells cs t (0, 0))
section
variable {W W' : World} {b : Nat} {t : TypeId} {cs : Array Value}
theorem Bb.lt (h : Bb W b t cs) : b < W.heap.size := (Array.getElem?_eq_some_iff.1 h).1
theorem Bb.c (h : Bb W b t cs) (i : Nat) {v : Value} (hv : cs[i]? = some v) : W.cell? ⟨b, i, none⟩ = some v := (cell_of_row W b i cs t (0, 0) h).trans hv
theorem Bb.f (h : Bb W b t cs) (i : Nat) : W.frozen? ⟨b, i, none⟩ = false := frozen_of_row W b i cs t h
theorem Bb.new (hb : b = W.heap.size) : Bb (W.alloc (.cells cs t)) b t cs := by subst hb; exact heap_alloc_new W _
theorem Bb.alloc (h : Bb W b t cs) (o : Obj) : Bb (W.alloc o) b t cs := (Below.heap_alloc W o b h.lt).trans h
theorem Bb.drew (h : Bb W b t cs) : Bb W.drew b t cs := h
theorem Bb.drewN (h : Bb W b t cs) (n : Nat) : Bb (W.drewN n) b t cs := h
theorem Bb.far (h : Bb W b t cs) {g o : Nat} {u : Value} (hp : b ≠ g) : Bb (W.setCell ⟨g, o, none⟩ u) b t cs := (Below.heap_setCell W _ u b hp).trans h
theorem Bb.set {cs' : Array Value} {i : Nat} {u : Value} (h : Bb W b t cs) (hc : cs' = cs.setIfInBounds i u) : Bb (W.setCell ⟨b, i, none⟩ u) b t cs' := by
  rw [hc]; exact heap_setCell_same W b i cs t u h
theorem Bb.mono (h : Bb W b t cs) (hb : Below W.heap.size W W') : Bb W' b t cs := (hb.block b h.lt).trans h
theorem Bb.below {B : Nat} (h : Bb W b t cs) (hb : Below B W W') (hB : b < B) : Bb W' b t cs := (hb.block b hB).trans h
theorem Bb.at_ (h : Bb W b t cs) (hb : W'.heap[b]? = W.heap[b]?) : Bb W' b t cs := hb.trans h
theorem Bb.grown {row : Option Nat} (h : Bb W b t cs) (hg : W.grownBy W' row) (hne : some b ≠ row) : Bb W' b t cs := (hg.block b h.lt hne).trans h
end

/-! flat values -/
/-- how a value of a flat type lies in cells -/
structure Enc (α : Type) where
  n : Nat
  cs : α → List Value
  len : ∀ x, (cs x).length = n
  pos : 0 < n
  one : ∀ x, ∀ v ∈ cs x, v.oneCell' = true
section
variable {α : Type} {E : Enc α}
def Enc.all (E : Enc α) : List α → List Value
  | [] => []
  | x :: xs => E.cs x ++ E.all xs
theorem Enc.all_len (xs : List α) : (E.all xs).length = xs.length * E.n := by
  induction xs with
  | nil => simp [Enc.all]
  | cons x xs ih => simp only [Enc.all, List.length_append, ih, E.len, List.length_cons, Nat.add_mul, Nat.one_mul]; omega
theorem Enc.all_app (xs ys : List α) : E.all (xs ++ ys) = E.all xs ++ E.all ys := by
  induction xs with
  | nil => rfl
  | cons x xs ih => simp only [List.cons_append, Enc.all, ih, List.append_assoc]
theorem Enc.all_get {xs : List α} {k j : Nat} {x : α} {v : Value} (h : xs[k]? = some x) (hj : (E.cs x)[j]? = some v) : (E.all xs)[k * E.n + j]? = some v := by
  induction xs generalizing k with
  | nil => simp at h
  | cons y ys ih =>
    cases k with
    | zero =>
      simp only [List.getElem?_cons_zero, Option.some.injEq] at h
      subst h
      have hl := (List.getElem?_eq_some_iff.1 hj).1
      rw [Nat.zero_mul, Nat.zero_add]
      show (E.cs y ++ E.all ys)[j]? = _
      rw [List.getElem?_append_left hl]
      exact hj
    | succ k =>
      show (E.cs y ++ E.all ys)[(k + 1) * E.n + j]? = _
      rw [Nat.add_mul, Nat.one_mul, List.getElem?_append_right (by rw [E.len]; omega), E.len, show k * E.n + E.n + j - E.n = k * E.n + j by omega]
      exact ih (by simpa using h)
theorem Enc.all_inv {xs : List α} {i : Nat} {v : Value} (h : (E.all xs)[i]? = some v) : ∃ k j x, i = k * E.n + j ∧ xs[k]? = some x ∧ (E.cs x)[j]? = some v := by
  have hl := (List.getElem?_eq_some_iff.1 h).1
  rw [Enc.all_len] at hl
  have hk : i / E.n < xs.length := by
    rw [Nat.div_lt_iff_lt_mul E.pos]; exact hl
  have hm := Nat.mod_lt i E.pos
  have hx : xs[i / E.n]? = some xs[i / E.n] := List.getElem?_eq_getElem hk
  have he : i = i / E.n * E.n + i % E.n := by rw [Nat.mul_comm]; exact (Nat.div_add_mod i E.n).symm
  have hjl : i % E.n < (E.cs xs[i / E.n]).length := by rw [E.len]; exact hm
  refine ⟨_, _, _, he, hx, ?_⟩
  have hj : (E.cs xs[i / E.n])[i % E.n]? = some ((E.cs xs[i / E.n])[i % E.n]'hjl) := List.getElem?_eq_getElem hjl
  have := Enc.all_get hx hj
  rw [← he, h] at this
  rw [hj, this]
theorem Enc.all_one (xs : List α) : ∀ v ∈ E.all xs, v.oneCell' = true := by
  induction xs with
  | nil => intro v h; cases h
  | cons x xs ih =>
    intro v h
    rcases List.mem_append.1 h with h | h
    · exact E.one x v h
    · exact ih v h
theorem Enc.all_take (xs : List α) (n : Nat) : E.all (xs.take n) = (E.all xs).take (n * E.n) := by
  induction xs generalizing n with
  | nil => simp [Enc.all]
  | cons x xs ih =>
    cases n with
    | zero => simp [Enc.all]
    | succ n =>
      rw [List.take_succ_cons]
      show E.cs x ++ E.all (xs.take n) = (E.cs x ++ E.all xs).take ((n + 1) * E.n)
      rw [ih, List.take_append, E.len, show (n + 1) * E.n - E.n = n * E.n by rw [Nat.add_mul]; omega, List.take_of_length_le (l := E.cs x) (by rw [E.len, Nat.add_mul]; omega)]
theorem Enc.all_drop (xs : List α) (n : Nat) : E.all (xs.drop n) = (E.all xs).drop (n * E.n) := by
  induction xs generalizing n with
  | nil => simp [Enc.all]
  | cons x xs ih =>
    cases n with
    | zero => simp [Enc.all]
    | succ n =>
      rw [List.drop_succ_cons, ih]
      show _ = (E.cs x ++ E.all xs).drop ((n + 1) * E.n)
      rw [List.drop_append, E.len, show (n + 1) * E.n - E.n = n * E.n by rw [Nat.add_mul]; omega, List.drop_of_length_le (l := E.cs x) (by rw [E.len, Nat.add_mul]; omega), List.nil_append]
/-- successive stores into a list -/
def setL (l : List Value) (o : Nat) : List Value → List Value
  | [] => l
  | v :: vs => setL (l.set o v) (o + 1) vs
theorem setL_eq (vs : List Value) : ∀ (l : List Value) (o : Nat), o + vs.length ≤ l.length → setL l o vs = l.take o ++ vs ++ l.drop (o + vs.length) := by
  induction vs with
  | nil => intro l o h; simp [setL]
  | cons v vs ih =>
    intro l o h
    rw [List.length_cons] at h
    have ho : o < l.length := by omega
    show setL (l.set o v) (o + 1) vs = _
    rw [ih _ _ (by rw [List.length_set]; omega), List.take_set, List.take_succ_eq_append_getElem ho, List.set_append_right _ _ (by rw [List.length_take]; omega), List.length_take, Nat.min_eq_left (Nat.le_of_lt ho), Nat.sub_self, List.drop_set_of_lt (by omega), List.length_cons, show o + 1 + vs.length = o + (vs.length + 1) by omega]
    simp
theorem Enc.all_set {xs : List α} {k : Nat} (x : α) (hk : k < xs.length) : E.all (xs.set k x) = setL (E.all xs) (k * E.n) (E.cs x) := by
  have hl : k * E.n + (E.cs x).length ≤ (E.all xs).length := by
    rw [E.len, Enc.all_len]
    have := Nat.mul_le_mul_right E.n (show k + 1 ≤ xs.length from hk)
    rw [Nat.add_mul, Nat.one_mul] at this; exact this
  rw [setL_eq _ _ _ hl, List.set_eq_take_append_cons_drop, if_pos hk, Enc.all_app]
  show _ ++ (E.cs x ++ E.all (xs.drop (k + 1))) = _
  rw [Enc.all_take, Enc.all_drop, E.len, Nat.add_mul, Nat.one_mul, List.append_assoc]
/-- successive stores into a block -/
def setN (W : World) (g o : Nat) : List Value → World
  | [] => W
  | v :: vs => setN (W.setCell ⟨g, o, none⟩ v) g (o + 1) vs
theorem setN_heap (vs : List Value) : ∀ {W : World} {g o : Nat} {l : List Value} {t : TypeId}, W.heap[g]? = some (.cells l.toArray t (0, 0)) → (setN W g o vs).heap[g]? = some (.cells (setL l o vs).toArray t (0, 0)) := by
  induction vs with
  | nil => intro W g o l t h; exact h
  | cons v vs ih =>
    intro W g o l t h
    have h1 := heap_setCell_same _ g o _ t v h
    rw [List.setIfInBounds_toArray] at h1
    exact ih h1
theorem setN_below (vs : List Value) : ∀ {B : Nat} {a W : World} {g o : Nat}, Below B a W → B ≤ g → Below B a (setN W g o vs) := by
  induction vs with
  | nil => intro B a W g o h hg; exact h
  | cons v vs ih => intro B a W g o h hg; exact ih (h.setCell (p := ⟨g, o, none⟩) hg _) hg
theorem setN_far (vs : List Value) : ∀ {W : World} {g o k : Nat}, k ≠ g → (setN W g o vs).heap[k]? = W.heap[k]? := by
  induction vs with
  | nil => intro W g o k h; rfl
  | cons v vs ih => intro W g o k h; exact (ih h).trans (Below.heap_setCell W _ v k h)
theorem setN_size (vs : List Value) : ∀ {W : World} {g o : Nat}, (setN W g o vs).heap.size = W.heap.size := by
  induction vs with
  | nil => intro W g o; rfl
  | cons v vs ih => intro W g o; exact ih.trans (by simp)
theorem setN_grown {a b : World} {g o : Nat} {vs : List Value} (h : a.grownBy b (some g)) : a.grownBy (setN b g o vs) (some g) :=
  have hb := setN_below vs (o := o) (Below.refl g b) (Nat.le_refl g)
  grwT h ⟨hb.os, hb.tape, hb.output, hb.size, fun k _ hk => setN_far vs (fun e => hk (by rw [e]))⟩

/-- the cells of a value at an offset of a block -/
def Ex (E : Enc α) (W : World) (g o : Nat) (x : α) : Prop := ∀ j v, (E.cs x)[j]? = some v → W.cell? ⟨g, o + j, none⟩ = some v
theorem Ex.lt {W : World} {g o : Nat} {x : α} (h : Ex E W g o x) : g < W.heap.size := by
  have h0 : 0 < (E.cs x).length := by rw [E.len]; exact E.pos
  exact World.block_lt_of_cell? W _ (h 0 _ (List.getElem?_eq_getElem h0))
theorem Ex.at_ {W W' : World} {g o : Nat} {x : α} (h : Ex E W g o x) (hb : W'.heap[g]? = W.heap[g]?) : Ex E W' g o x := fun j v hj => (World.cell?_of_block (a := ⟨g, o + j, none⟩) hb).trans (h j v hj)
/-- a slice's address under which these values lie -/
def Rd (E : Enc α) (W : World) (A : Option Addr) (xs : List α) : Prop := ∀ k x, xs[k]? = some x → ∃ g o, A = some ⟨g, o, none⟩ ∧ Ex E W g (o + k * E.n) x
theorem Rd.at_ {W W' : World} {A : Option Addr} {xs : List α} (h : Rd E W A xs) (hb : ∀ a, A = some a → W'.heap[a.block]? = W.heap[a.block]?) : Rd E W' A xs := by
  intro k x hk
  obtain ⟨g, o, rfl, hc⟩ := h k x hk
  exact ⟨g, o, rfl, hc.at_ (hb _ rfl)⟩
theorem Rd.mono {W W' : World} {A : Option Addr} {xs : List α} (h : Rd E W A xs) (hb : Below W.heap.size W W') : Rd E W' A xs := by
  intro k x hk
  obtain ⟨g, o, rfl, hc⟩ := h k x hk
  exact ⟨g, o, rfl, hc.at_ (hb.block g hc.lt)⟩
theorem Rd.nil (W : World) (A : Option Addr) : Rd E W A [] := fun k x h => by simp at h
theorem Rd.far {W : World} {A : Option Addr} {xs : List α} (h : Rd E W A xs) {p : Addr} (hp : ∀ a, A = some a → a.block ≠ p.block) (u : Value) : Rd E (W.setCell p u) A xs := h.at_ fun a ha => Below.heap_setCell _ _ _ _ (hp a ha)
theorem Rd.al {W : World} {A : Option Addr} {xs : List α} (h : Rd E W A xs) (o : Obj) : Rd E (W.alloc o) A xs := h.mono ((Below.refl _ _).alloc (Nat.le_refl _) _)
theorem Rd.take {W : World} {A : Option Addr} {xs : List α} (h : Rd E W A xs) (n : Nat) : Rd E W A (xs.take n) := by
  intro k x hk
  rw [List.getElem?_take] at hk
  split at hk
  · exact h _ _ hk
  · cases hk
theorem Rd.sub {W : World} {g o : Nat} {xs : List α} (h : Rd E W (some ⟨g, o, none⟩) xs) (i : Nat) : Rd E W (some ⟨g, o + i * E.n, none⟩) (xs.drop i) := by
  intro k x hk
  rw [List.getElem?_drop] at hk
  obtain ⟨g', o', he, hc⟩ := h _ _ hk
  simp only [Option.some.injEq, Addr.mk.injEq, and_true] at he
  obtain ⟨rfl, rfl⟩ := he
  exact ⟨g, o + i * E.n, rfl, by rw [Nat.add_assoc, ← Nat.add_mul]; exact hc⟩
theorem Rd.all {W : World} {g o : Nat} {xs : List α} (h : Rd E W (some ⟨g, o, none⟩) xs) : ∀ j v, (E.all xs)[j]? = some v → W.cell? ((⟨g, o, none⟩ : Addr).add j) = some v := by
  intro i v hi
  obtain ⟨k, j, x, rfl, hx, hj⟩ := Enc.all_inv hi
  obtain ⟨g', o', he, hc⟩ := h _ _ hx
  simp only [Option.some.injEq, Addr.mk.injEq, and_true] at he
  obtain ⟨rfl, rfl⟩ := he
  rw [adrAdd, ← Nat.add_assoc]
  exact hc j v hj

/-- a block of the call's own that holds these values and nothing else -/
def Bk (E : Enc α) (W : World) (g : Nat) (t : TypeId) (xs : List α) : Prop := W.heap[g]? = some (.cells (E.all xs).toArray t (0, 0))
theorem Bk.lt {W : World} {g : Nat} {t : TypeId} {xs : List α} (h : Bk E W g t xs) : g < W.heap.size := (Array.getElem?_eq_some_iff.1 h).1
theorem Bk.ex {W : World} {g : Nat} {t : TypeId} {xs : List α} (h : Bk E W g t xs) {k : Nat} {x : α} (hk : xs[k]? = some x) : Ex E W g (k * E.n) x := by
  intro j v hj
  rw [cell_of_row W g _ _ t (0, 0) h]
  simpa using Enc.all_get hk hj
theorem Bk.rd {W : World} {g : Nat} {t : TypeId} {xs : List α} (h : Bk E W g t xs) : Rd E W (some ⟨g, 0, none⟩) xs := fun k x hk => ⟨g, 0, rfl, by rw [Nat.zero_add]; exact h.ex hk⟩
theorem Bk.fr {W : World} {g : Nat} {t : TypeId} {xs : List α} (h : Bk E W g t xs) (i : Nat) : W.frozen? ⟨g, i, none⟩ = false := frozen_of_row W g i _ t h
theorem Bk.mono {W W' : World} {g : Nat} {t : TypeId} {xs : List α} (h : Bk E W g t xs) (hb : Below W.heap.size W W') : Bk E W' g t xs := (hb.block g h.lt).trans h
theorem Bk.at_ {W W' : World} {g : Nat} {t : TypeId} {xs : List α} (h : Bk E W g t xs) (hb : W'.heap[g]? = W.heap[g]?) : Bk E W' g t xs := hb.trans h
theorem Bk.alloc {W : World} {g : Nat} {t : TypeId} {xs : List α} (h : Bk E W g t xs) (o : Obj) : Bk E (W.alloc o) g t xs := (Below.heap_alloc W o g h.lt).trans h
theorem Bk.far {W : World} {g : Nat} {t : TypeId} {xs : List α} (h : Bk E W g t xs) {p : Addr} (hp : g ≠ p.block) (u : Value) : Bk E (W.setCell p u) g t xs := (Below.heap_setCell W p u g hp).trans h
theorem Bk.grown {W W' : World} {g : Nat} {t : TypeId} {xs : List α} {row : Option Nat} (h : Bk E W g t xs) (hg : W.grownBy W' row) (hne : some g ≠ row) : Bk E W' g t xs := (hg.block g h.lt hne).trans h
theorem Bk.set {W : World} {g : Nat} {t : TypeId} {xs : List α} (h : Bk E W g t xs) {k : Nat} (x : α) (hk : k < xs.length) : Bk E (setN W g (k * E.n) (E.cs x)) g t (xs.set k x) := by
  unfold Bk
  rw [Enc.all_set x hk]
  exact setN_heap _ h
/-- read below a block number; owned from a block number on -/
def RdB (E : Enc α) (W : World) (B : Nat) (A : Option Addr) (xs : List α) : Prop := ∀ k x, xs[k]? = some x → ∃ g o, A = some ⟨g, o, none⟩ ∧ g < B ∧ Ex E W g (o + k * E.n) x
theorem Rd.b {W : World} {A : Option Addr} {xs : List α} (h : Rd E W A xs) {B : Nat} (hB : W.heap.size ≤ B) : RdB E W B A xs := fun k x hk => by
  obtain ⟨g, o, e, hc⟩ := h k x hk
  exact ⟨g, o, e, Nat.lt_of_lt_of_le hc.lt hB, hc⟩
theorem RdB.rd {W : World} {B : Nat} {A : Option Addr} {xs : List α} (h : RdB E W B A xs) : Rd E W A xs := fun k x hk => by
  obtain ⟨g, o, e, _, hc⟩ := h k x hk
  exact ⟨g, o, e, hc⟩
theorem RdB.up {W : World} {B B' : Nat} {A : Option Addr} {xs : List α} (h : RdB E W B A xs) (hB : B ≤ B') : RdB E W B' A xs := fun k x hk => by
  obtain ⟨g, o, e, hg, hc⟩ := h k x hk
  exact ⟨g, o, e, by omega, hc⟩
theorem RdB.keep {W W' : World} {B : Nat} {A : Option Addr} {xs : List α} (h : RdB E W B A xs) (hk : ∀ g, g < B → g < W.heap.size → W'.heap[g]? = W.heap[g]?) : RdB E W' B A xs := fun k x hx => by
  obtain ⟨g, o, e, hg, hc⟩ := h k x hx
  exact ⟨g, o, e, hg, hc.at_ (hk g hg hc.lt)⟩
theorem RdB.mono {W W' : World} {B : Nat} {A : Option Addr} {xs : List α} (h : RdB E W B A xs) (hb : Below W.heap.size W W') : RdB E W' B A xs := h.keep fun g _ hg => hb.block g hg
theorem RdB.grown {W W' : World} {B : Nat} {A : Option Addr} {xs : List α} {row : Option Nat} (h : RdB E W B A xs) (hg : W.grownBy W' row) (hr : ∀ r, row = some r → B ≤ r) : RdB E W' B A xs := h.keep fun g h1 h2 => hg.block g h2 (fun e => by have := hr g e.symm; omega)
/-- a block of the call's own that begins with these values -/
def Bs (E : Enc α) (W : World) (g : Nat) (t : TypeId) (xs : List α) : Prop := ∃ rest : List Value, W.heap[g]? = some (.cells (E.all xs ++ rest).toArray t (0, 0))
theorem Bk.bs {W : World} {g : Nat} {t : TypeId} {xs : List α} (h : Bk E W g t xs) : Bs E W g t xs := ⟨[], by rw [List.append_nil]; exact h⟩
theorem Bs.lt {W : World} {g : Nat} {t : TypeId} {xs : List α} (h : Bs E W g t xs) : g < W.heap.size := by
  obtain ⟨r, h⟩ := h
  exact (Array.getElem?_eq_some_iff.1 h).1
theorem Bs.ex {W : World} {g : Nat} {t : TypeId} {xs : List α} (h : Bs E W g t xs) {k : Nat} {x : α} (hk : xs[k]? = some x) : Ex E W g (k * E.n) x := by
  intro j v hj
  obtain ⟨r, h⟩ := h
  have h1 := Enc.all_get hk hj
  have hl := (List.getElem?_eq_some_iff.1 h1).1
  rw [cell_of_row W g _ _ t (0, 0) h]
  simp only [List.getElem?_toArray]
  rw [List.getElem?_append_left hl]
  exact h1
theorem Bs.rd {W : World} {g : Nat} {t : TypeId} {xs : List α} (h : Bs E W g t xs) : Rd E W (some ⟨g, 0, none⟩) xs := fun k x hk => ⟨g, 0, rfl, by rw [Nat.zero_add]; exact h.ex hk⟩
theorem Bs.fr {W : World} {g : Nat} {t : TypeId} {xs : List α} (h : Bs E W g t xs) (i : Nat) : W.frozen? ⟨g, i, none⟩ = false := by
  obtain ⟨r, h⟩ := h
  exact frozen_of_row W g i _ t h
theorem Bs.at_ {W W' : World} {g : Nat} {t : TypeId} {xs : List α} (h : Bs E W g t xs) (hb : W'.heap[g]? = W.heap[g]?) : Bs E W' g t xs := by
  obtain ⟨r, h⟩ := h
  exact ⟨r, hb.trans h⟩
theorem Bs.mono {W W' : World} {g : Nat} {t : TypeId} {xs : List α} (h : Bs E W g t xs) (hb : Below W.heap.size W W') : Bs E W' g t xs := h.at_ (hb.block g h.lt)
theorem Bs.alloc {W : World} {g : Nat} {t : TypeId} {xs : List α} (h : Bs E W g t xs) (o : Obj) : Bs E (W.alloc o) g t xs := h.at_ (Below.heap_alloc W o g h.lt)
theorem Bs.far {W : World} {g : Nat} {t : TypeId} {xs : List α} (h : Bs E W g t xs) {p : Addr} (hp : g ≠ p.block) (u : Value) : Bs E (W.setCell p u) g t xs := h.at_ (Below.heap_setCell W p u g hp)
theorem setL_left (vs : List Value) : ∀ (l r : List Value) (o : Nat), o + vs.length ≤ l.length → setL (l ++ r) o vs = setL l o vs ++ r := by
  induction vs with
  | nil => intro l r o h; rfl
  | cons v vs ih =>
    intro l r o h
    rw [List.length_cons] at h
    show setL ((l ++ r).set o v) (o + 1) vs = setL (l.set o v) (o + 1) vs ++ r
    rw [List.set_append_left _ _ (by omega)]
    exact ih _ _ _ (by rw [List.length_set]; omega)
theorem Bs.set {W : World} {g : Nat} {t : TypeId} {xs : List α} (h : Bs E W g t xs) {k : Nat} (x : α) (hk : k < xs.length) : Bs E (setN W g (k * E.n) (E.cs x)) g t (xs.set k x) := by
  obtain ⟨r, h⟩ := h
  refine ⟨r, ?_⟩
  rw [Enc.all_set x hk]
  have hl : k * E.n + (E.cs x).length ≤ (E.all xs).length := by
    rw [E.len, Enc.all_len]
    have := Nat.mul_le_mul_right E.n (show k + 1 ≤ xs.length from hk)
    rw [Nat.add_mul, Nat.one_mul] at this; exact this
  rw [← setL_left _ _ _ _ hl]
  exact setN_heap _ h
/-- a slice of the call's own: nil, or at the head of a block that begins with its values -/
def Ow (E : Enc α) (W : World) (B : Nat) (t : TypeId) (A : Option Addr) (xs : List α) : Prop := (xs = [] ∧ A = none) ∨ ∃ g, A = some ⟨g, 0, none⟩ ∧ B ≤ g ∧ Bs E W g t xs
theorem Ow.none {W : World} {B : Nat} {t : TypeId} : Ow E W B t none [] := Or.inl ⟨rfl, rfl⟩
theorem Ow.rd {W : World} {B : Nat} {t : TypeId} {A : Option Addr} {xs : List α} (h : Ow E W B t A xs) : Rd E W A xs := by
  rcases h with ⟨rfl, _⟩ | ⟨g, rfl, _, h⟩
  · exact Rd.nil _ _
  · exact h.rd
theorem Ow.mono {W W' : World} {B : Nat} {t : TypeId} {A : Option Addr} {xs : List α} (h : Ow E W B t A xs) (hb : Below W.heap.size W W') : Ow E W' B t A xs := by
  rcases h with h | ⟨g, rfl, h1, h2⟩
  · exact Or.inl h
  · exact Or.inr ⟨g, rfl, h1, h2.mono hb⟩
theorem Ow.grown {W W' : World} {B : Nat} {t : TypeId} {A : Option Addr} {xs : List α} {row : Option Nat} (h : Ow E W B t A xs) (hg : W.grownBy W' row) (hr : ∀ r, row = some r → r < B) : Ow E W' B t A xs := by
  rcases h with h | ⟨g, rfl, h1, h2⟩
  · exact Or.inl h
  · exact Or.inr ⟨g, rfl, h1, h2.at_ (hg.block g h2.lt (fun e => by have := hr g e.symm; omega))⟩
theorem Ow.far {W : World} {B : Nat} {t : TypeId} {A : Option Addr} {xs : List α} (h : Ow E W B t A xs) {p : Addr} (hp : p.block < B) (u : Value) : Ow E (W.setCell p u) B t A xs := by
  rcases h with h | ⟨g, rfl, h1, h2⟩
  · exact Or.inl h
  · exact Or.inr ⟨g, rfl, h1, h2.far (by omega) u⟩
theorem Ow.al {W : World} {B : Nat} {t : TypeId} {A : Option Addr} {xs : List α} (h : Ow E W B t A xs) (o : Obj) : Ow E (W.alloc o) B t A xs := h.mono ((Below.refl _ _).alloc (Nat.le_refl _) _)
theorem Ow.low {W : World} {B : Nat} {t : TypeId} {A : Option Addr} {xs : List α} (h : Ow E W B t A xs) : ∀ a, A = some a → B ≤ a.block := by
  intro a ha
  rcases h with ⟨_, rfl⟩ | ⟨g, rfl, h1, _⟩
  · cases ha
  · simp only [Option.some.injEq] at ha; subst ha; exact h1
theorem Ow.dn {W : World} {B B' : Nat} {t : TypeId} {A : Option Addr} {xs : List α} (h : Ow E W B t A xs) (hB : B' ≤ B) : Ow E W B' t A xs := by
  rcases h with h | ⟨g, rfl, h1, h2⟩
  · exact Or.inl h
  · exact Or.inr ⟨g, rfl, Nat.le_trans hB h1, h2⟩
theorem Bs.ow {W : World} {g B : Nat} {t : TypeId} {xs : List α} (h : Bs E W g t xs) (hB : B ≤ g) : Ow E W B t (some ⟨g, 0, none⟩) xs := Or.inr ⟨g, rfl, hB, h⟩
theorem Bk.ow {W : World} {g B : Nat} {t : TypeId} {xs : List α} (h : Bk E W g t xs) (hB : B ≤ g) : Ow E W B t (some ⟨g, 0, none⟩) xs := h.bs.ow hB
/-- the block of a slice's address -/
def blk (A : Option Addr) : Option Nat := A.map (·.block)
theorem Ow.row {W : World} {B : Nat} {t : TypeId} {A : Option Addr} {xs : List α} (h : Ow E W B t A xs) : ∀ r, blk A = some r → B ≤ r ∧ r < W.heap.size := by
  intro r hr
  rcases h with ⟨_, rfl⟩ | ⟨g, rfl, h1, h2⟩
  · cases hr
  · simp only [blk, Option.map_some, Option.some.injEq] at hr
    subst hr
    exact ⟨h1, h2.lt⟩

/-! lists that are filled from the front -/
theorem filSet {xs : List α} {j n : Nat} {x z : α} (hn : xs.length = n) (hx : xs[j]? = some x) : (xs.take j ++ List.replicate (n - j) z).set j x = xs.take (j + 1) ++ List.replicate (n - (j + 1)) z := by
  have hj : j < xs.length := (List.getElem?_eq_some_iff.1 hx).1
  have hv := (List.getElem?_eq_some_iff.1 hx).2
  have hl : (xs.take j).length = j := by rw [List.length_take]; omega
  rw [List.set_append_right _ _ (by omega), hl, Nat.sub_self, show n - j = (n - (j + 1)) + 1 by omega, List.replicate_succ, List.set_cons_zero, List.take_succ_eq_append_getElem hj, hv, List.append_assoc]
  rfl
theorem filAt {xs : List α} {j n : Nat} {z : α} (hn : xs.length = n) (hj : j < n) : (xs.take j ++ List.replicate (n - j) z)[j]? = some z := by
  rw [List.getElem?_append_right (by rw [List.length_take, hn]; omega), List.length_take, hn, Nat.min_eq_left (Nat.le_of_lt hj), Nat.sub_self, List.getElem?_replicate, if_pos (by omega)]
theorem filLen {xs : List α} {j n : Nat} {z : α} (hn : xs.length = n) (hj : j ≤ n) : (xs.take j ++ List.replicate (n - j) z).length = n := by
  rw [List.length_append, List.length_take, List.length_replicate, hn]; omega
/-- the marks that a law writes -/
def mks (M : Int → Nat → α) (k : Int) (n : Nat) : List α := (List.range n).map (M k)
theorem mks_len (M : Int → Nat → α) (k : Int) (n : Nat) : (mks M k n).length = n := by simp [mks]
theorem mks_succ (M : Int → Nat → α) (k : Int) (n : Nat) : mks M k (n + 1) = mks M k n ++ [M k n] := by simp [mks, List.range_succ]
theorem mks_get (M : Int → Nat → α) (k : Int) {n j : Nat} (h : j < n) : (mks M k n)[j]? = some (M k j) := by simp [mks, h]
theorem mks_set (M : Int → Nat → α) {xs : List α} {k : Int} {j : Nat} (hj : j < xs.length) : (mks M k j ++ xs.drop j).set j (M k j) = mks M k (j + 1) ++ xs.drop (j + 1) := by
  rw [List.set_append_right _ _ (by rw [mks_len]; omega), mks_len, Nat.sub_self, List.drop_eq_getElem_cons hj, List.set_cons_zero, mks_succ, List.append_assoc]
  rfl
theorem mks_at (M : Int → Nat → α) {xs : List α} {k : Int} {j : Nat} {x : α} (hx : xs[j]? = some x) : (mks M k j ++ xs.drop j)[j]? = some x := by
  rw [List.getElem?_append_right (by rw [mks_len]; omega), mks_len, Nat.sub_self, List.getElem?_drop, Nat.add_zero]; exact hx

theorem madeE {zc : Array Value} {z : α} (hz : zc.toList = E.cs z) (n : Nat) : madeCells zc (n * E.n) = (E.all (List.replicate n z)).toArray := by
  have hs : zc.size = E.n := by rw [← Array.length_toList, hz, E.len]
  apply Array.ext'
  apply List.ext_getElem?
  intro i
  by_cases hi : i < n * E.n
  · have hk : i / E.n < n := by rw [Nat.div_lt_iff_lt_mul E.pos]; exact hi
    have hm := Nat.mod_lt i E.pos
    have he : i = i / E.n * E.n + i % E.n := by rw [Nat.mul_comm]; exact (Nat.div_add_mod i E.n).symm
    have hx : (List.replicate n z)[i / E.n]? = some z := by rw [List.getElem?_replicate, if_pos hk]
    have hjl : i % E.n < (E.cs z).length := by rw [E.len]; exact hm
    have h1 := Enc.all_get (E := E) hx (List.getElem?_eq_getElem hjl)
    rw [← he] at h1
    rw [h1]
    simp only [madeCells, Array.toList_map, Array.toList_range, List.getElem?_map, List.getElem?_range hi, Option.map_some, hs]
    rw [getElem!_pos zc (i % E.n) (by rw [hs]; exact hm), ← Array.getElem_toList]
    simp only [hz]
  · rw [List.getElem?_eq_none (by rw [Array.length_toList, size_madeCells]; omega), List.getElem?_eq_none (by simp only [Enc.all_len, List.length_replicate]; omega)]
theorem Bk.made {W : World} {t : TypeId} {n b : Nat} {z : α} (hb : b = W.heap.size) : Bk E (W.alloc (.cells (E.all (List.replicate n z)).toArray t)) b t (List.replicate n z) := by subst hb; exact heap_alloc_new W _

/-! slices that a call makes and appends to -/
def Own (E : Enc α) (W : World) (base : Nat) (t : TypeId) (v : Value) (xs : List α) : Prop := W.ownsRow base t E.n v xs.length (E.all xs)
theorem Own.nil (W : World) (base : Nat) (t : TypeId) : Own E W base t (.slice none 0 0) [] := World.ownsRow_nil W base t E.n
theorem Own.form {W : World} {base : Nat} {t : TypeId} {v : Value} {xs : List α} (h : Own E W base t v xs) : ∃ A cp, v = .slice A xs.length cp ∧ Rd E W A xs ∧ (∀ a, A = some a → base ≤ a.block ∧ a.block < W.heap.size) := by
  have hlt := World.ownsRow.lt h
  rcases h.2 with ⟨hv, h0⟩ | ⟨g, cap, cur, hv, hb, hg, hnc, hcm, hcs, htake⟩
  · have hx : xs = [] := List.eq_nil_of_length_eq_zero h0
    subst hx
    exact ⟨none, 0, hv, Rd.nil _ _, fun a ha => by cases ha⟩
  · refine ⟨some ⟨g, 0, none⟩, cap, hv, ?_, fun a ha => by simp only [Option.some.injEq] at ha; subst ha; exact hlt g (by rw [hv]; rfl)⟩
    have hc := World.ownsRow.cells h (g := g) (by rw [hv]; rfl)
    intro k x hk
    refine ⟨g, 0, rfl, fun j v hj => ?_⟩
    have := hc _ _ (Enc.all_get hk hj)
    rw [adrAdd, ← Nat.add_assoc] at this
    exact this
theorem Own.ow {W : World} {base : Nat} {t : TypeId} {v : Value} {xs : List α} (h : Own E W base t v xs) : ∃ A cp, v = .slice A xs.length cp ∧ Ow E W base t A xs := by
  rcases h.2 with ⟨hv, h0⟩ | ⟨g, cap, cur, hv, hb, hg, hnc, hcm, hcs, htake⟩
  · have hx : xs = [] := List.eq_nil_of_length_eq_zero h0
    subst hx
    exact ⟨none, 0, hv, Ow.none⟩
  · refine ⟨some ⟨g, 0, none⟩, cap, hv, Or.inr ⟨g, rfl, hb, cur.toList.drop (xs.length * E.n), ?_⟩⟩
    rw [hg, ← htake, List.take_append_drop]
theorem Own.kept {W W' : World} {base : Nat} {t : TypeId} {v : Value} {xs : List α} {row : Option Nat} (h : Own E W base t v xs) (hg : W.grownBy W' row) (hne : v.ownBlock = none ∨ v.ownBlock ≠ row) : Own E W' base t v xs := World.ownsRow.kept h hg hne
theorem Own.mono {W W' : World} {base : Nat} {t : TypeId} {v : Value} {xs : List α} (h : Own E W base t v xs) (hb : Below W.heap.size W W') : Own E W' base t v xs :=
  h.kept (row := none) (grwB hb) (by cases v.ownBlock <;> simp)
theorem Own.far {W : World} {base : Nat} {t : TypeId} {v : Value} {xs : List α} (h : Own E W base t v xs) {p : Addr} (hp : p.block < base) (u : Value) : Own E (W.setCell p u) base t v xs := ownsRow_setCell_below h hp u
theorem Own.drew {W : World} {base : Nat} {t : TypeId} {v : Value} {xs : List α} (h : Own E W base t v xs) : Own E W.drew base t v xs := h
theorem Own.snoc {W' : World} {base : Nat} {t : TypeId} {v' : Value} {xs : List α} {n : Nat} {x : α} (hn : xs.length = n) (h : W'.ownsRow base t E.n v' (n + 1) (E.all xs ++ E.cs x)) : Own E W' base t v' (xs ++ [x]) := by
  unfold Own
  rw [Enc.all_app, List.length_append, hn]
  have : E.all [x] = E.cs x := by simp [Enc.all]
  rw [this]
  exact h
theorem Own.app {W' : World} {base : Nat} {t : TypeId} {v' : Value} {xs ys : List α} {n m : Nat} (hn : xs.length = n) (hm : ys.length = m) (h : W'.ownsRow base t E.n v' (n + m) (E.all xs ++ E.all ys)) : Own E W' base t v' (xs ++ ys) := by
  unfold Own
  rw [Enc.all_app, List.length_append, hn, hm]
  exact h
/-- what a function is given by a list of n values -/
def tab (n : Nat) (f : Nat → α) : List α := (List.range n).map f
theorem tab_len (n : Nat) (f : Nat → α) : (tab n f).length = n := by simp [tab]
theorem tab_succ (n : Nat) (f : Nat → α) : tab (n + 1) f = tab n f ++ [f n] := by simp [tab, List.range_succ]
theorem tab_get {n : Nat} {f : Nat → α} {k : Nat} (h : k < n) : (tab n f)[k]? = some (f k) := by simp [tab, h]
theorem tab_congr {n : Nat} {f g : Nat → α} (h : ∀ q, q < n → f q = g q) : tab n f = tab n g := by
  unfold tab
  exact List.map_congr_left (fun q hq => h q (List.mem_range.1 hq))
end
end Go.Proofs.YtofclfgaekjonaaDoor
