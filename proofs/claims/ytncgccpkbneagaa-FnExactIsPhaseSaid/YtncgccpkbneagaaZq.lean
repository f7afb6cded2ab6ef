/- QEn, QFlat, QFlatG, QCirc, QGa, QRdA -/
import Derived.Test.YtncgccpkbneagaaProg
import Derived.Handy
import Derived.LoopTactic
import Derived.Laws.OwnMore
import Derived.Deep.AppendLies
import Derived.Deep.Draws
import Derived.Deep.LoopGhost
import Derived.Laws.CopyOwn
import Derived.IntWalk
import Derived.Deep.RegionHeld3
import Derived.StillTailTactics
import Derived.Test.YtncgccpkbneagaaRows
import Derived.ProofKit
import Derived.OpenShut
import Derived.ShutString
import Derived.ChangeOld
import Derived.Below
import Derived.Lib.SmallJoins
import Derived.Deep.Slices
import Derived.Deep.Strs
import Derived.DataReads
namespace Go.Proofs.Ytncgccpkbneagaa.C4
open Go.RowKit
set_option linter.unusedVariables false
set_option linter.unusedSimpArgs false

/-! worlds -/
/-- a fact kept from the walk -/
theorem lay {p : Prop} (h : p) : Hid p := h
theorem bcl {W w1 : World} (hb : Below W.heap.size W w1) : (∀ b o, b < W.heap.size → w1.cell? ⟨b, o, none⟩ = W.cell? ⟨b, o, none⟩) ∧ (∀ b o, b < W.heap.size → w1.frozen? ⟨b, o, none⟩ = W.frozen? ⟨b, o, none⟩) ∧ W.heap.size ≤ w1.heap.size :=
  ⟨fun b o h => hb.cell (p := ⟨b, o, none⟩) h, fun b o h => hb.frozen (p := ⟨b, o, none⟩) h, hb.size⟩
theorem chn {B C : Nat} {w a b : World} (h : Below B w a) (k : Below C a b) (hB : B ≤ C) : Below B w b := h.trans (k.mono hB)
theorem bdN {B : Nat} {a w : World} (h : Below B a w) (n : Nat) : Below B a (w.drewN n) := h.trans ⟨rfl, rfl, rfl, Nat.le_refl _, fun _ _ => rfl⟩
/-- a cell behind a call -/
theorem kcl {a b : World} {k o : Nat} {v : Value} (hb : Below a.heap.size a b) (h : a.cell? ⟨k, o, none⟩ = some v) : b.cell? ⟨k, o, none⟩ = some v :=
  ((bcl hb).1 k o (World.block_lt_of_cell? a _ h)).trans h
theorem kclAl {a : World} {x : Obj} {k o : Nat} {v : Value} (h : a.cell? ⟨k, o, none⟩ = some v) : (a.alloc x).cell? ⟨k, o, none⟩ = some v :=
  kcl ((Below.refl _ _).alloc (Nat.le_refl _) _) h
theorem frAl {a : World} {x : Obj} {k o : Nat} (hk : k < a.heap.size) (h : a.frozen? ⟨k, o, none⟩ = false) : (a.alloc x).frozen? ⟨k, o, none⟩ = false :=
  ((bcl ((Below.refl a.heap.size a).alloc (Nat.le_refl _) x)).2.1 k o hk).trans h
theorem kclAld {a : World} {x : Obj} {k o : Nat} {v : Value} (h : a.drew.cell? ⟨k, o, none⟩ = some v) : (a.alloc x).drew.cell? ⟨k, o, none⟩ = some v :=
  kclAl (a := a) h
theorem kclRe {a : World} {x y : Obj} {k o : Nat} {v : Value} (hk : k < a.heap.size) (h : (a.alloc x).cell? ⟨k, o, none⟩ = some v) : (a.alloc y).cell? ⟨k, o, none⟩ = some v := by
  rw [World.cell?_alloc_lt _ _ _ hk]
  rw [World.cell?_alloc_lt _ _ _ hk] at h
  exact h
theorem kclS1 {a : World} {g k o o0 : Nat} {v v0 : Value} (hne : g ≠ k) (h : a.cell? ⟨k, o, none⟩ = some v) : (a.setCell ⟨g, o0, none⟩ v0).cell? ⟨k, o, none⟩ = some v := by
  rw [World.cell?_setCell_far _ _ _ _ hne, h]
theorem kclS2 {a : World} {g k o o0 o1 : Nat} {v v0 v1 : Value} (hne : g ≠ k) (h : a.cell? ⟨k, o, none⟩ = some v) : ((a.setCell ⟨g, o0, none⟩ v0).setCell ⟨g, o1, none⟩ v1).cell? ⟨k, o, none⟩ = some v := by
  rw [World.cell?_setCell_far _ _ _ _ hne, World.cell?_setCell_far _ _ _ _ hne, h]
theorem kclS3 {a : World} {g k o o0 o1 o2 : Nat} {v v0 v1 v2 : Value} (hne : g ≠ k) (h : a.cell? ⟨k, o, none⟩ = some v) : (((a.setCell ⟨g, o0, none⟩ v0).setCell ⟨g, o1, none⟩ v1).setCell ⟨g, o2, none⟩ v2).cell? ⟨k, o, none⟩ = some v := by
  rw [World.cell?_setCell_far _ _ _ _ hne, World.cell?_setCell_far _ _ _ _ hne, World.cell?_setCell_far _ _ _ _ hne, h]
theorem kclS4 {a : World} {g k o o0 o1 o2 o3 : Nat} {v v0 v1 v2 v3 : Value} (hne : g ≠ k) (h : a.cell? ⟨k, o, none⟩ = some v) : ((((a.setCell ⟨g, o0, none⟩ v0).setCell ⟨g, o1, none⟩ v1).setCell ⟨g, o2, none⟩ v2).setCell ⟨g, o3, none⟩ v3).cell? ⟨k, o, none⟩ = some v := by
  rw [World.cell?_setCell_far _ _ _ _ hne, World.cell?_setCell_far _ _ _ _ hne, World.cell?_setCell_far _ _ _ _ hne, World.cell?_setCell_far _ _ _ _ hne, h]
theorem kclS5 {a : World} {g k o o0 o1 o2 o3 o4 : Nat} {v v0 v1 v2 v3 v4 : Value} (hne : g ≠ k) (h : a.cell? ⟨k, o, none⟩ = some v) : (((((a.setCell ⟨g, o0, none⟩ v0).setCell ⟨g, o1, none⟩ v1).setCell ⟨g, o2, none⟩ v2).setCell ⟨g, o3, none⟩ v3).setCell ⟨g, o4, none⟩ v4).cell? ⟨k, o, none⟩ = some v := by
  rw [World.cell?_setCell_far _ _ _ _ hne, World.cell?_setCell_far _ _ _ _ hne, World.cell?_setCell_far _ _ _ _ hne, World.cell?_setCell_far _ _ _ _ hne, World.cell?_setCell_far _ _ _ _ hne, h]
theorem kclS6 {a : World} {g k o o0 o1 o2 o3 o4 o5 : Nat} {v v0 v1 v2 v3 v4 v5 : Value} (hne : g ≠ k) (h : a.cell? ⟨k, o, none⟩ = some v) : ((((((a.setCell ⟨g, o0, none⟩ v0).setCell ⟨g, o1, none⟩ v1).setCell ⟨g, o2, none⟩ v2).setCell ⟨g, o3, none⟩ v3).setCell ⟨g, o4, none⟩ v4).setCell ⟨g, o5, none⟩ v5).cell? ⟨k, o, none⟩ = some v := by
  rw [World.cell?_setCell_far _ _ _ _ hne, World.cell?_setCell_far _ _ _ _ hne, World.cell?_setCell_far _ _ _ _ hne, World.cell?_setCell_far _ _ _ _ hne, World.cell?_setCell_far _ _ _ _ hne, World.cell?_setCell_far _ _ _ _ hne, h]
theorem kclS7 {a : World} {g k o o0 o1 o2 o3 o4 o5 o6 : Nat} {v v0 v1 v2 v3 v4 v5 v6 : Value} (hne : g ≠ k) (h : a.cell? ⟨k, o, none⟩ = some v) : (((((((a.setCell ⟨g, o0, none⟩ v0).setCell ⟨g, o1, none⟩ v1).setCell ⟨g, o2, none⟩ v2).setCell ⟨g, o3, none⟩ v3).setCell ⟨g, o4, none⟩ v4).setCell ⟨g, o5, none⟩ v5).setCell ⟨g, o6, none⟩ v6).cell? ⟨k, o, none⟩ = some v := by
  rw [World.cell?_setCell_far _ _ _ _ hne, World.cell?_setCell_far _ _ _ _ hne, World.cell?_setCell_far _ _ _ _ hne, World.cell?_setCell_far _ _ _ _ hne, World.cell?_setCell_far _ _ _ _ hne, World.cell?_setCell_far _ _ _ _ hne, World.cell?_setCell_far _ _ _ _ hne, h]
theorem grwT {a b c : World} {row : Option Nat} (h : a.grownBy b row) (k : b.grownBy c row) : a.grownBy c row :=
  ⟨k.os.trans h.os, k.tape.trans h.tape, k.output.trans h.output, Nat.le_trans h.size k.size, fun i hi hr => (k.block i (Nat.lt_of_lt_of_le hi h.size) hr).trans (h.block i hi hr)⟩
theorem grwB {a b : World} {row : Option Nat} (h : Below a.heap.size a b) : a.grownBy b row := ⟨h.os, h.tape, h.output, h.size, fun k hk _ => h.block k hk⟩
theorem grwAl {w w' : World} {o : Obj} {row : Option Nat} (h : (w.alloc o).grownBy w' row) : w.grownBy w' row := grwT (World.grownBy_alloc w o row) h
theorem adrAdd (g o j : Nat) : (⟨g, o, none⟩ : Addr).add j = ⟨g, o + j, none⟩ := by unfold Addr.add; split <;> simp_all

/-! blocks of locals, known whole -/
def Bb (W : World) (b : Nat) (t : TypeId) (cs : Array Value) : Prop := W.heap[b]? = some (.cells cs t (0, 0))
section
variable {W W' : World} {b : Nat} {t : TypeId} {cs : Array Value}
theorem Bb.lt (h : Bb W b t cs) : b < W.heap.size := (Array.getElem?_eq_some_iff.1 h).1
theorem Bb.c (h : Bb W b t cs) (i : Nat) {v : Value} (hv : cs[i]? = some v) : W.cell? ⟨b, i, none⟩ = some v := (cell_of_row W b i cs t (0, 0) h).trans hv
theorem Bb.f (h : Bb W b t cs) (i : Nat) : W.frozen? ⟨b, i, none⟩ = false := frozen_of_row W b i cs t h
theorem Bb.new (hb : b = W.heap.size) : Bb (W.alloc (.cells cs t)) b t cs := by subst hb; exact heap_alloc_new W _
theorem Bb.alloc (h : Bb W b t cs) (o : Obj) : Bb (W.alloc o) b t cs := (Below.heap_alloc W o b h.lt).trans h
theorem Bb.drew (h : Bb W b t cs) : Bb W.drew b t cs := h
theorem Bb.drewN (h : Bb W b t cs) (n : Nat) : Bb (W.drewN n) b t cs := h
theorem Bb.far (h : Bb W b t cs) {g o : Nat} {u : Value} (hp : b ≠ g) : Bb (W.setCell ⟨g, o, none⟩ u) b t cs := (Below.heap_setCell W _ u b hp).trans h
theorem Bb.set {cs' : Array Value} {i : Nat} {u : Value} (h : Bb W b t cs) (hc : cs' = cs.setIfInBounds i u) : Bb (W.setCell ⟨b, i, none⟩ u) b t cs' := by
  rw [hc]; exact heap_setCell_same W b i cs t u h
theorem Bb.mono (h : Bb W b t cs) (hb : Below W.heap.size W W') : Bb W' b t cs := (hb.block b h.lt).trans h
theorem Bb.below {B : Nat} (h : Bb W b t cs) (hb : Below B W W') (hB : b < B) : Bb W' b t cs := (hb.block b hB).trans h
theorem Bb.at_ (h : Bb W b t cs) (hb : W'.heap[b]? = W.heap[b]?) : Bb W' b t cs := hb.trans h
theorem Bb.grown {row : Option Nat} (h : Bb W b t cs) (hg : W.grownBy W' row) (hne : some b ≠ row) : Bb W' b t cs := (hg.block b h.lt hne).trans h
end

/-! flat values -/
/-- how a value of a flat type lies in cells -/
structure Enc (α : Type) where
  n : Nat
  cs : α → List Value
  len : ∀ x, (cs x).length = n
  pos : 0 < n
  one : ∀ x, ∀ v ∈ cs x, v.oneCell' = true
section
variable {α : Type} {E : Enc α}
def Enc.all (E : Enc α) : List α → List Value
  | [] => []
  | x :: xs => E.cs x ++ E.all xs
theorem Enc.all_len (xs : List α) : (E.all xs).length = xs.length * E.n := by
  induction xs with
  | nil => simp [Enc.all]
  | cons x xs ih => simp only [Enc.all, List.length_append, ih, E.len, List.length_cons, Nat.add_mul, Nat.one_mul]; omega
theorem Enc.all_app (xs ys : List α) : E.all (xs ++ ys) = E.all xs ++ E.all ys := by
  induction xs with
  | nil => rfl
  | cons x xs ih => simp only [List.cons_append, Enc.all, ih, List.append_assoc]
theorem Enc.all_get {xs : List α} {k j : Nat} {x : α} {v : Value} (h : xs[k]? = some x) (hj : (E.cs x)[j]? = some v) : (E.all xs)[k * E.n + j]? = some v := by
  induction xs generalizing k with
  | nil => simp at h
  | cons y ys ih =>
    cases k with
    | zero =>
      simp only [List.getElem?_cons_zero, Option.some.injEq] at h
      subst h
      have hl := (List.getElem?_eq_some_iff.1 hj).1
      rw [Nat.zero_mul, Nat.zero_add]
      show (E.cs y ++ E.all ys)[j]? = _
      rw [List.getElem?_append_left hl]
      exact hj
    | succ k =>
      show (E.cs y ++ E.all ys)[(k + 1) * E.n + j]? = _
      rw [Nat.add_mul, Nat.one_mul, List.getElem?_append_right (by rw [E.len]; omega), E.len, show k * E.n + E.n + j - E.n = k * E.n + j by omega]
      exact ih (by simpa using h)
theorem Enc.all_inv {xs : List α} {i : Nat} {v : Value} (h : (E.all xs)[i]? = some v) : ∃ k j x, i = k * E.n + j ∧ xs[k]? = some x ∧ (E.cs x)[j]? = some v := by
  have hl := (List.getElem?_eq_some_iff.1 h).1
  rw [Enc.all_len] at hl
  have hk : i / E.n < xs.length := by
    rw [Nat.div_lt_iff_lt_mul E.pos]; exact hl
  have hm := Nat.mod_lt i E.pos
  have hx : xs[i / E.n]? = some xs[i / E.n] := List.getElem?_eq_getElem hk
  have he : i = i / E.n * E.n + i % E.n := by rw [Nat.mul_comm]; exact (Nat.div_add_mod i E.n).symm
  have hjl : i % E.n < (E.cs xs[i / E.n]).length := by rw [E.len]; exact hm
  refine ⟨_, _, _, he, hx, ?_⟩
  have hj : (E.cs xs[i / E.n])[i % E.n]? = some ((E.cs xs[i / E.n])[i % E.n]'hjl) := List.getElem?_eq_getElem hjl
  have := Enc.all_get hx hj
  rw [← he, h] at this
  rw [hj, this]
theorem Enc.all_one (xs : List α) : ∀ v ∈ E.all xs, v.oneCell' = true := by
  induction xs with
  | nil => intro v h; cases h
  | cons x xs ih =>
    intro v h
    rcases List.mem_append.1 h with h | h
    · exact E.one x v h
    · exact ih v h
theorem Enc.all_take (xs : List α) (n : Nat) : E.all (xs.take n) = (E.all xs).take (n * E.n) := by
  induction xs generalizing n with
  | nil => simp [Enc.all]
  | cons x xs ih =>
    cases n with
    | zero => simp [Enc.all]
    | succ n =>
      rw [List.take_succ_cons]
      show E.cs x ++ E.all (xs.take n) = (E.cs x ++ E.all xs).take ((n + 1) * E.n)
      rw [ih, List.take_append, E.len, show (n + 1) * E.n - E.n = n * E.n by rw [Nat.add_mul]; omega, List.take_of_length_le (l := E.cs x) (by rw [E.len, Nat.add_mul]; omega)]
theorem Enc.all_drop (xs : List α) (n : Nat) : E.all (xs.drop n) = (E.all xs).drop (n * E.n) := by
  induction xs generalizing n with
  | nil => simp [Enc.all]
  | cons x xs ih =>
    cases n with
    | zero => simp [Enc.all]
    | succ n =>
      rw [List.drop_succ_cons, ih]
      show _ = (E.cs x ++ E.all xs).drop ((n + 1) * E.n)
      rw [List.drop_append, E.len, show (n + 1) * E.n - E.n = n * E.n by rw [Nat.add_mul]; omega, List.drop_of_length_le (l := E.cs x) (by rw [E.len, Nat.add_mul]; omega), List.nil_append]
/-- successive stores into a list -/
def setL (l : List Value) (o : Nat) : List Value → List Value
  | [] => l
  | v :: vs => setL (l.set o v) (o + 1) vs
theorem setL_eq (vs : List Value) : ∀ (l : List Value) (o : Nat), o + vs.length ≤ l.length → setL l o vs = l.take o ++ vs ++ l.drop (o + vs.length) := by
  induction vs with
  | nil => intro l o h; simp [setL]
  | cons v vs ih =>
    intro l o h
    rw [List.length_cons] at h
    have ho : o < l.length := by omega
    show setL (l.set o v) (o + 1) vs = _
    rw [ih _ _ (by rw [List.length_set]; omega), List.take_set, List.take_succ_eq_append_getElem ho, List.set_append_right _ _ (by rw [List.length_take]; omega), List.length_take, Nat.min_eq_left (Nat.le_of_lt ho), Nat.sub_self, List.drop_set_of_lt (by omega), List.length_cons, show o + 1 + vs.length = o + (vs.length + 1) by omega]
    simp
theorem Enc.all_set {xs : List α} {k : Nat} (x : α) (hk : k < xs.length) : E.all (xs.set k x) = setL (E.all xs) (k * E.n) (E.cs x) := by
  have hl : k * E.n + (E.cs x).length ≤ (E.all xs).length := by
    rw [E.len, Enc.all_len]
    have := Nat.mul_le_mul_right E.n (show k + 1 ≤ xs.length from hk)
    rw [Nat.add_mul, Nat.one_mul] at this; exact this
  rw [setL_eq _ _ _ hl, List.set_eq_take_append_cons_drop, if_pos hk, Enc.all_app]
  show _ ++ (E.cs x ++ E.all (xs.drop (k + 1))) = _
  rw [Enc.all_take, Enc.all_drop, E.len, Nat.add_mul, Nat.one_mul, List.append_assoc]
/-- successive stores into a block -/
def setN (W : World) (g o : Nat) : List Value → World
  | [] => W
  | v :: vs => setN (W.setCell ⟨g, o, none⟩ v) g (o + 1) vs
theorem setN_heap (vs : List Value) : ∀ {W : World} {g o : Nat} {l : List Value} {t : TypeId}, W.heap[g]? = some (.cells l.toArray t (0, 0)) → (setN W g o vs).heap[g]? = some (.cells (setL l o vs).toArray t (0, 0)) := by
  induction vs with
  | nil => intro W g o l t h; exact h
  | cons v vs ih =>
    intro W g o l t h
    have h1 := heap_setCell_same _ g o _ t v h
    rw [List.setIfInBounds_toArray] at h1
    exact ih h1
theorem setN_below (vs : List Value) : ∀ {B : Nat} {a W : World} {g o : Nat}, Below B a W → B ≤ g → Below B a (setN W g o vs) := by
  induction vs with
  | nil => intro B a W g o h hg; exact h
  | cons v vs ih => intro B a W g o h hg; exact ih (h.setCell (p := ⟨g, o, none⟩) hg _) hg
theorem setN_far (vs : List Value) : ∀ {W : World} {g o k : Nat}, k ≠ g → (setN W g o vs).heap[k]? = W.heap[k]? := by
  induction vs with
  | nil => intro W g o k h; rfl
  | cons v vs ih => intro W g o k h; exact (ih h).trans (Below.heap_setCell W _ v k h)
theorem setN_size (vs : List Value) : ∀ {W : World} {g o : Nat}, (setN W g o vs).heap.size = W.heap.size := by
  induction vs with
  | nil => intro W g o; rfl
  | cons v vs ih => intro W g o; exact ih.trans (by simp)
theorem setN_grown {a b : World} {g o : Nat} {vs : List Value} (h : a.grownBy b (some g)) : a.grownBy (setN b g o vs) (some g) :=
  have hb := setN_below vs (o := o) (Below.refl g b) (Nat.le_refl g)
  grwT h ⟨hb.os, hb.tape, hb.output, hb.size, fun k _ hk => setN_far vs (fun e => hk (by rw [e]))⟩

/-- the cells of a value at an offset of a block -/
def Ex (E : Enc α) (W : World) (g o : Nat) (x : α) : Prop := ∀ j v, (E.cs x)[j]? = some v → W.cell? ⟨g, o + j, none⟩ = some v
theorem Ex.lt {W : World} {g o : Nat} {x : α} (h : Ex E W g o x) : g < W.heap.size := by
  have h0 : 0 < (E.cs x).length := by rw [E.len]; exact E.pos
  exact World.block_lt_of_cell? W _ (h 0 _ (List.getElem?_eq_getElem h0))
theorem Ex.at_ {W W' : World} {g o : Nat} {x : α} (h : Ex E W g o x) (hb : W'.heap[g]? = W.heap[g]?) : Ex E W' g o x := fun j v hj => (World.cell?_of_block (a := ⟨g, o + j, none⟩) hb).trans (h j v hj)
/-- a slice's address under which these values lie -/
def Rd (E : Enc α) (W : World) (A : Option Addr) (xs : List α) : Prop := ∀ k x, xs[k]? = some x → ∃ g o, A = some ⟨g, o, none⟩ ∧ Ex E W g (o + k * E.n) x
theorem Rd.at_ {W W' : World} {A : Option Addr} {xs : List α} (h : Rd E W A xs) (hb : ∀ a, A = some a → W'.heap[a.block]? = W.heap[a.block]?) : Rd E W' A xs := by
  intro k x hk
  obtain ⟨g, o, rfl, hc⟩ := h k x hk
  exact ⟨g, o, rfl, hc.at_ (hb _ rfl)⟩
theorem Rd.mono {W W' : World} {A : Option Addr} {xs : List α} (h : Rd E W A xs) (hb : Below W.heap.size W W') : Rd E W' A xs := by
  intro k x hk
  obtain ⟨g, o, rfl, hc⟩ := h k x hk
  exact ⟨g, o, rfl, hc.at_ (hb.block g hc.lt)⟩
theorem Rd.nil (W : World) (A : Option Addr) : Rd E W A [] := fun k x h => by simp at h
theorem Rd.far {W : World} {A : Option Addr} {xs : List α} (h : Rd E W A xs) {p : Addr} (hp : ∀ a, A = some a → a.block ≠ p.block) (u : Value) : Rd E (W.setCell p u) A xs := h.at_ fun a ha => Below.heap_setCell _ _ _ _ (hp a ha)
theorem Rd.al {W : World} {A : Option Addr} {xs : List α} (h : Rd E W A xs) (o : Obj) : Rd E (W.alloc o) A xs := h.mono ((Below.refl _ _).alloc (Nat.le_refl _) _)
theorem Rd.take {W : World} {A : Option Addr} {xs : List α} (h : Rd E W A xs) (n : Nat) : Rd E W A (xs.take n) := by
  intro k x hk
  rw [List.getElem?_take] at hk
  split at hk
  · exact h _ _ hk
  · cases hk
theorem Rd.sub {W : World} {g o : Nat} {xs : List α} (h : Rd E W (some ⟨g, o, none⟩) xs) (i : Nat) : Rd E W (some ⟨g, o + i * E.n, none⟩) (xs.drop i) := by
  intro k x hk
  rw [List.getElem?_drop] at hk
  obtain ⟨g', o', he, hc⟩ := h _ _ hk
  simp only [Option.some.injEq, Addr.mk.injEq, and_true] at he
  obtain ⟨rfl, rfl⟩ := he
  exact ⟨g, o + i * E.n, rfl, by rw [Nat.add_assoc, ← Nat.add_mul]; exact hc⟩
theorem Rd.all {W : World} {g o : Nat} {xs : List α} (h : Rd E W (some ⟨g, o, none⟩) xs) : ∀ j v, (E.all xs)[j]? = some v → W.cell? ((⟨g, o, none⟩ : Addr).add j) = some v := by
  intro i v hi
  obtain ⟨k, j, x, rfl, hx, hj⟩ := Enc.all_inv hi
  obtain ⟨g', o', he, hc⟩ := h _ _ hx
  simp only [Option.some.injEq, Addr.mk.injEq, and_true] at he
  obtain ⟨rfl, rfl⟩ := he
  rw [adrAdd, ← Nat.add_assoc]
  exact hc j v hj

/-- a block of the call's own that holds these values and nothing else -/
def Bk (E : Enc α) (W : World) (g : Nat) (t : TypeId) (xs : List α) : Prop := W.heap[g]? = some (.cells (E.all xs).toArray t (0, 0))
theorem Bk.lt {W : World} {g : Nat} {t : TypeId} {xs : List α} (h : Bk E W g t xs) : g < W.heap.size := (Array.getElem?_eq_some_iff.1 h).1
theorem Bk.ex {W : World} {g : Nat} {t : TypeId} {xs : List α} (h : Bk E W g t xs) {k : Nat} {x : α} (hk : xs[k]? = some x) : Ex E W g (k * E.n) x := by
  intro j v hj
  rw [cell_of_row W g _ _ t (0, 0) h]
  simpa using Enc.all_get hk hj
theorem Bk.rd {W : World} {g : Nat} {t : TypeId} {xs : List α} (h : Bk E W g t xs) : Rd E W (some ⟨g, 0, none⟩) xs := fun k x hk => ⟨g, 0, rfl, by rw [Nat.zero_add]; exact h.ex hk⟩
theorem Bk.fr {W : World} {g : Nat} {t : TypeId} {xs : List α} (h : Bk E W g t xs) (i : Nat) : W.frozen? ⟨g, i, none⟩ = false := frozen_of_row W g i _ t h
theorem Bk.mono {W W' : World} {g : Nat} {t : TypeId} {xs : List α} (h : Bk E W g t xs) (hb : Below W.heap.size W W') : Bk E W' g t xs := (hb.block g h.lt).trans h
theorem Bk.at_ {W W' : World} {g : Nat} {t : TypeId} {xs : List α} (h : Bk E W g t xs) (hb : W'.heap[g]? = W.heap[g]?) : Bk E W' g t xs := hb.trans h
theorem Bk.alloc {W : World} {g : Nat} {t : TypeId} {xs : List α} (h : Bk E W g t xs) (o : Obj) : Bk E (W.alloc o) g t xs := (Below.heap_alloc W o g h.lt).trans h
theorem Bk.far {W : World} {g : Nat} {t : TypeId} {xs : List α} (h : Bk E W g t xs) {p : Addr} (hp : g ≠ p.block) (u : Value) : Bk E (W.setCell p u) g t xs := (Below.heap_setCell W p u g hp).trans h
theorem Bk.grown {W W' : World} {g : Nat} {t : TypeId} {xs : List α} {row : Option Nat} (h : Bk E W g t xs) (hg : W.grownBy W' row) (hne : some g ≠ row) : Bk E W' g t xs := (hg.block g h.lt hne).trans h
theorem Bk.set {W : World} {g : Nat} {t : TypeId} {xs : List α} (h : Bk E W g t xs) {k : Nat} (x : α) (hk : k < xs.length) : Bk E (setN W g (k * E.n) (E.cs x)) g t (xs.set k x) := by
  unfold Bk
  rw [Enc.all_set x hk]
  exact setN_heap _ h
/-- read below a block number; owned from a block number on -/
def RdB (E : Enc α) (W : World) (B : Nat) (A : Option Addr) (xs : List α) : Prop := ∀ k x, xs[k]? = some x → ∃ g o, A = some ⟨g, o, none⟩ ∧ g < B ∧ Ex E W g (o + k * E.n) x
theorem Rd.b {W : World} {A : Option Addr} {xs : List α} (h : Rd E W A xs) {B : Nat} (hB : W.heap.size ≤ B) : RdB E W B A xs := fun k x hk => by
  obtain ⟨g, o, e, hc⟩ := h k x hk
  exact ⟨g, o, e, Nat.lt_of_lt_of_le hc.lt hB, hc⟩
theorem RdB.rd {W : World} {B : Nat} {A : Option Addr} {xs : List α} (h : RdB E W B A xs) : Rd E W A xs := fun k x hk => by
  obtain ⟨g, o, e, _, hc⟩ := h k x hk
  exact ⟨g, o, e, hc⟩
theorem RdB.up {W : World} {B B' : Nat} {A : Option Addr} {xs : List α} (h : RdB E W B A xs) (hB : B ≤ B') : RdB E W B' A xs := fun k x hk => by
  obtain ⟨g, o, e, hg, hc⟩ := h k x hk
  exact ⟨g, o, e, by omega, hc⟩
theorem RdB.keep {W W' : World} {B : Nat} {A : Option Addr} {xs : List α} (h : RdB E W B A xs) (hk : ∀ g, g < B → g < W.heap.size → W'.heap[g]? = W.heap[g]?) : RdB E W' B A xs := fun k x hx => by
  obtain ⟨g, o, e, hg, hc⟩ := h k x hx
  exact ⟨g, o, e, hg, hc.at_ (hk g hg hc.lt)⟩
theorem RdB.mono {W W' : World} {B : Nat} {A : Option Addr} {xs : List α} (h : RdB E W B A xs) (hb : Below W.heap.size W W') : RdB E W' B A xs := h.keep fun g _ hg => hb.block g hg
theorem RdB.grown {W W' : World} {B : Nat} {A : Option Addr} {xs : List α} {row : Option Nat} (h : RdB E W B A xs) (hg : W.grownBy W' row) (hr : ∀ r, row = some r → B ≤ r) : RdB E W' B A xs := h.keep fun g h1 h2 => hg.block g h2 (fun e => by have := hr g e.symm; omega)
/-- a block of the call's own that begins with these values -/
def Bs (E : Enc α) (W : World) (g : Nat) (t : TypeId) (xs : List α) : Prop := ∃ rest : List Value, W.heap[g]? = some (.cells (E.all xs ++ rest).toArray t (0, 0))
theorem Bk.bs {W : World} {g : Nat} {t : TypeId} {xs : List α} (h : Bk E W g t xs) : Bs E W g t xs := ⟨[], by rw [List.append_nil]; exact h⟩
theorem Bs.lt {W : World} {g : Nat} {t : TypeId} {xs : List α} (h : Bs E W g t xs) : g < W.heap.size := by
  obtain ⟨r, h⟩ := h
  exact (Array.getElem?_eq_some_iff.1 h).1
theorem Bs.ex {W : World} {g : Nat} {t : TypeId} {xs : List α} (h : Bs E W g t xs) {k : Nat} {x : α} (hk : xs[k]? = some x) : Ex E W g (k * E.n) x := by
  intro j v hj
  obtain ⟨r, h⟩ := h
  have h1 := Enc.all_get hk hj
  have hl := (List.getElem?_eq_some_iff.1 h1).1
  rw [cell_of_row W g _ _ t (0, 0) h]
  simp only [List.getElem?_toArray]
  rw [List.getElem?_append_left hl]
  exact h1
theorem Bs.rd {W : World} {g : Nat} {t : TypeId} {xs : List α} (h : Bs E W g t xs) : Rd E W (some ⟨g, 0, none⟩) xs := fun k x hk => ⟨g, 0, rfl, by rw [Nat.zero_add]; exact h.ex hk⟩
theorem Bs.fr {W : World} {g : Nat} {t : TypeId} {xs : List α} (h : Bs E W g t xs) (i : Nat) : W.frozen? ⟨g, i, none⟩ = false := by
  obtain ⟨r, h⟩ := h
  exact frozen_of_row W g i _ t h
theorem Bs.at_ {W W' : World} {g : Nat} {t : TypeId} {xs : List α} (h : Bs E W g t xs) (hb : W'.heap[g]? = W.heap[g]?) : Bs E W' g t xs := by
  obtain ⟨r, h⟩ := h
  exact ⟨r, hb.trans h⟩
theorem Bs.mono {W W' : World} {g : Nat} {t : TypeId} {xs : List α} (h : Bs E W g t xs) (hb : Below W.heap.size W W') : Bs E W' g t xs := h.at_ (hb.block g h.lt)
theorem Bs.alloc {W : World} {g : Nat} {t : TypeId} {xs : List α} (h : Bs E W g t xs) (o : Obj) : Bs E (W.alloc o) g t xs := h.at_ (Below.heap_alloc W o g h.lt)
theorem Bs.far {W : World} {g : Nat} {t : TypeId} {xs : List α} (h : Bs E W g t xs) {p : Addr} (hp : g ≠ p.block) (u : Value) : Bs E (W.setCell p u) g t xs := h.at_ (Below.heap_setCell W p u g hp)
theorem setL_left (vs : List Value) : ∀ (l r : List Value) (o : Nat), o + vs.length ≤ l.length → setL (l ++ r) o vs = setL l o vs ++ r := by
  induction vs with
  | nil => intro l r o h; rfl
  | cons v vs ih =>
    intro l r o h
    rw [List.length_cons] at h
    show setL ((l ++ r).set o v) (o + 1) vs = setL (l.set o v) (o + 1) vs ++ r
    rw [List.set_append_left _ _ (by omega)]
    exact ih _ _ _ (by rw [List.length_set]; omega)
theorem Bs.set {W : World} {g : Nat} {t : TypeId} {xs : List α} (h : Bs E W g t xs) {k : Nat} (x : α) (hk : k < xs.length) : Bs E (setN W g (k * E.n) (E.cs x)) g t (xs.set k x) := by
  obtain ⟨r, h⟩ := h
  refine ⟨r, ?_⟩
  rw [Enc.all_set x hk]
  have hl : k * E.n + (E.cs x).length ≤ (E.all xs).length := by
    rw [E.len, Enc.all_len]
    have := Nat.mul_le_mul_right E.n (show k + 1 ≤ xs.length from hk)
    rw [Nat.add_mul, Nat.one_mul] at this; exact this
  rw [← setL_left _ _ _ _ hl]
  exact setN_heap _ h
/-- a slice of the call's own: nil, or at the head of a block that begins with its values -/
def Ow (E : Enc α) (W : World) (B : Nat) (t : TypeId) (A : Option Addr) (xs : List α) : Prop := (xs = [] ∧ A = none) ∨ ∃ g, A = some ⟨g, 0, none⟩ ∧ B ≤ g ∧ Bs E W g t xs
theorem Ow.none {W : World} {B : Nat} {t : TypeId} : Ow E W B t none [] := Or.inl ⟨rfl, rfl⟩
theorem Ow.rd {W : World} {B : Nat} {t : TypeId} {A : Option Addr} {xs : List α} (h : Ow E W B t A xs) : Rd E W A xs := by
  rcases h with ⟨rfl, _⟩ | ⟨g, rfl, _, h⟩
  · exact Rd.nil _ _
  · exact h.rd
theorem Ow.mono {W W' : World} {B : Nat} {t : TypeId} {A : Option Addr} {xs : List α} (h : Ow E W B t A xs) (hb : Below W.heap.size W W') : Ow E W' B t A xs := by
  rcases h with h | ⟨g, rfl, h1, h2⟩
  · exact Or.inl h
  · exact Or.inr ⟨g, rfl, h1, h2.mono hb⟩
theorem Ow.grown {W W' : World} {B : Nat} {t : TypeId} {A : Option Addr} {xs : List α} {row : Option Nat} (h : Ow E W B t A xs) (hg : W.grownBy W' row) (hr : ∀ r, row = some r → r < B) : Ow E W' B t A xs := by
  rcases h with h | ⟨g, rfl, h1, h2⟩
  · exact Or.inl h
  · exact Or.inr ⟨g, rfl, h1, h2.at_ (hg.block g h2.lt (fun e => by have := hr g e.symm; omega))⟩
theorem Ow.far {W : World} {B : Nat} {t : TypeId} {A : Option Addr} {xs : List α} (h : Ow E W B t A xs) {p : Addr} (hp : p.block < B) (u : Value) : Ow E (W.setCell p u) B t A xs := by
  rcases h with h | ⟨g, rfl, h1, h2⟩
  · exact Or.inl h
  · exact Or.inr ⟨g, rfl, h1, h2.far (by omega) u⟩
theorem Ow.al {W : World} {B : Nat} {t : TypeId} {A : Option Addr} {xs : List α} (h : Ow E W B t A xs) (o : Obj) : Ow E (W.alloc o) B t A xs := h.mono ((Below.refl _ _).alloc (Nat.le_refl _) _)
theorem Ow.low {W : World} {B : Nat} {t : TypeId} {A : Option Addr} {xs : List α} (h : Ow E W B t A xs) : ∀ a, A = some a → B ≤ a.block := by
  intro a ha
  rcases h with ⟨_, rfl⟩ | ⟨g, rfl, h1, _⟩
  · cases ha
  · simp only [Option.some.injEq] at ha; subst ha; exact h1
theorem Ow.dn {W : World} {B B' : Nat} {t : TypeId} {A : Option Addr} {xs : List α} (h : Ow E W B t A xs) (hB : B' ≤ B) : Ow E W B' t A xs := by
  rcases h with h | ⟨g, rfl, h1, h2⟩
  · exact Or.inl h
  · exact Or.inr ⟨g, rfl, Nat.le_trans hB h1, h2⟩
theorem Bs.ow {W : World} {g B : Nat} {t : TypeId} {xs : List α} (h : Bs E W g t xs) (hB : B ≤ g) : Ow E W B t (some ⟨g, 0, none⟩) xs := Or.inr ⟨g, rfl, hB, h⟩
theorem Bk.ow {W : World} {g B : Nat} {t : TypeId} {xs : List α} (h : Bk E W g t xs) (hB : B ≤ g) : Ow E W B t (some ⟨g, 0, none⟩) xs := h.bs.ow hB
/-- the block of a slice's address -/
def blk (A : Option Addr) : Option Nat := A.map (·.block)
theorem Ow.row {W : World} {B : Nat} {t : TypeId} {A : Option Addr} {xs : List α} (h : Ow E W B t A xs) : ∀ r, blk A = some r → B ≤ r ∧ r < W.heap.size := by
  intro r hr
  rcases h with ⟨_, rfl⟩ | ⟨g, rfl, h1, h2⟩
  · cases hr
  · simp only [blk, Option.map_some, Option.some.injEq] at hr
    subst hr
    exact ⟨h1, h2.lt⟩

/-! lists that are filled from the front -/
theorem filSet {xs : List α} {j n : Nat} {x z : α} (hn : xs.length = n) (hx : xs[j]? = some x) : (xs.take j ++ List.replicate (n - j) z).set j x = xs.take (j + 1) ++ List.replicate (n - (j + 1)) z := by
  have hj : j < xs.length := (List.getElem?_eq_some_iff.1 hx).1
  have hv := (List.getElem?_eq_some_iff.1 hx).2
  have hl : (xs.take j).length = j := by rw [List.length_take]; omega
  rw [List.set_append_right _ _ (by omega), hl, Nat.sub_self, show n - j = (n - (j + 1)) + 1 by omega, List.replicate_succ, List.set_cons_zero, List.take_succ_eq_append_getElem hj, hv, List.append_assoc]
  rfl
theorem filAt {xs : List α} {j n : Nat} {z : α} (hn : xs.length = n) (hj : j < n) : (xs.take j ++ List.replicate (n - j) z)[j]? = some z := by
  rw [List.getElem?_append_right (by rw [List.length_take, hn]; omega), List.length_take, hn, Nat.min_eq_left (Nat.le_of_lt hj), Nat.sub_self, List.getElem?_replicate, if_pos (by omega)]
theorem filLen {xs : List α} {j n : Nat} {z : α} (hn : xs.length = n) (hj : j ≤ n) : (xs.take j ++ List.replicate (n - j) z).length = n := by
  rw [List.length_append, List.length_take, List.length_replicate, hn]; omega
/-- the marks that a law writes -/
def mks (M : Int → Nat → α) (k : Int) (n : Nat) : List α := (List.range n).map (M k)
theorem mks_len (M : Int → Nat → α) (k : Int) (n : Nat) : (mks M k n).length = n := by simp [mks]
theorem mks_succ (M : Int → Nat → α) (k : Int) (n : Nat) : mks M k (n + 1) = mks M k n ++ [M k n] := by simp [mks, List.range_succ]
theorem mks_get (M : Int → Nat → α) (k : Int) {n j : Nat} (h : j < n) : (mks M k n)[j]? = some (M k j) := by simp [mks, h]
theorem mks_set (M : Int → Nat → α) {xs : List α} {k : Int} {j : Nat} (hj : j < xs.length) : (mks M k j ++ xs.drop j).set j (M k j) = mks M k (j + 1) ++ xs.drop (j + 1) := by
  rw [List.set_append_right _ _ (by rw [mks_len]; omega), mks_len, Nat.sub_self, List.drop_eq_getElem_cons hj, List.set_cons_zero, mks_succ, List.append_assoc]
  rfl
theorem mks_at (M : Int → Nat → α) {xs : List α} {k : Int} {j : Nat} {x : α} (hx : xs[j]? = some x) : (mks M k j ++ xs.drop j)[j]? = some x := by
  rw [List.getElem?_append_right (by rw [mks_len]; omega), mks_len, Nat.sub_self, List.getElem?_drop, Nat.add_zero]; exact hx

theorem madeE {zc : Array Value} {z : α} (hz : zc.toList = E.cs z) (n : Nat) : madeCells zc (n * E.n) = (E.all (List.replicate n z)).toArray := by
  have hs : zc.size = E.n := by rw [← Array.length_toList, hz, E.len]
  apply Array.ext'
  apply List.ext_getElem?
  intro i
  by_cases hi : i < n * E.n
  · have hk : i / E.n < n := by rw [Nat.div_lt_iff_lt_mul E.pos]; exact hi
    have hm := Nat.mod_lt i E.pos
    have he : i = i / E.n * E.n + i % E.n := by rw [Nat.mul_comm]; exact (Nat.div_add_mod i E.n).symm
    have hx : (List.replicate n z)[i / E.n]? = some z := by rw [List.getElem?_replicate, if_pos hk]
    have hjl : i % E.n < (E.cs z).length := by rw [E.len]; exact hm
    have h1 := Enc.all_get (E := E) hx (List.getElem?_eq_getElem hjl)
    rw [← he] at h1
    rw [h1]
    simp only [madeCells, Array.toList_map, Array.toList_range, List.getElem?_map, List.getElem?_range hi, Option.map_some, hs]
    rw [getElem!_pos zc (i % E.n) (by rw [hs]; exact hm), ← Array.getElem_toList]
    simp only [hz]
  · rw [List.getElem?_eq_none (by rw [Array.length_toList, size_madeCells]; omega), List.getElem?_eq_none (by simp only [Enc.all_len, List.length_replicate]; omega)]
theorem Bk.made {W : World} {t : TypeId} {n b : Nat} {z : α} (hb : b = W.heap.size) : Bk E (W.alloc (.cells (E.all (List.replicate n z)).toArray t)) b t (List.replicate n z) := by subst hb; exact heap_alloc_new W _

/-! slices that a call makes and appends to -/
def Own (E : Enc α) (W : World) (base : Nat) (t : TypeId) (v : Value) (xs : List α) : Prop := W.ownsRow base t E.n v xs.length (E.all xs)
theorem Own.nil (W : World) (base : Nat) (t : TypeId) : Own E W base t (.slice none 0 0) [] := World.ownsRow_nil W base t E.n
theorem Own.form {W : World} {base : Nat} {t : TypeId} {v : Value} {xs : List α} (h : Own E W base t v xs) : ∃ A cp, v = .slice A xs.length cp ∧ Rd E W A xs ∧ (∀ a, A = some a → base ≤ a.block ∧ a.block < W.heap.size) := by
  have hlt := World.ownsRow.lt h
  rcases h.2 with ⟨hv, h0⟩ | ⟨g, cap, cur, hv, hb, hg, hnc, hcm, hcs, htake⟩
  · have hx : xs = [] := List.eq_nil_of_length_eq_zero h0
    subst hx
    exact ⟨none, 0, hv, Rd.nil _ _, fun a ha => by cases ha⟩
  · refine ⟨some ⟨g, 0, none⟩, cap, hv, ?_, fun a ha => by simp only [Option.some.injEq] at ha; subst ha; exact hlt g (by rw [hv]; rfl)⟩
    have hc := World.ownsRow.cells h (g := g) (by rw [hv]; rfl)
    intro k x hk
    refine ⟨g, 0, rfl, fun j v hj => ?_⟩
    have := hc _ _ (Enc.all_get hk hj)
    rw [adrAdd, ← Nat.add_assoc] at this
    exact this
theorem Own.ow {W : World} {base : Nat} {t : TypeId} {v : Value} {xs : List α} (h : Own E W base t v xs) : ∃ A cp, v = .slice A xs.length cp ∧ Ow E W base t A xs := by
  rcases h.2 with ⟨hv, h0⟩ | ⟨g, cap, cur, hv, hb, hg, hnc, hcm, hcs, htake⟩
  · have hx : xs = [] := List.eq_nil_of_length_eq_zero h0
    subst hx
    exact ⟨none, 0, hv, Ow.none⟩
  · refine ⟨some ⟨g, 0, none⟩, cap, hv, Or.inr ⟨g, rfl, hb, cur.toList.drop (xs.length * E.n), ?_⟩⟩
    rw [hg, ← htake, List.take_append_drop]
theorem Own.kept {W W' : World} {base : Nat} {t : TypeId} {v : Value} {xs : List α} {row : Option Nat} (h : Own E W base t v xs) (hg : W.grownBy W' row) (hne : v.ownBlock = none ∨ v.ownBlock ≠ row) : Own E W' base t v xs := World.ownsRow.kept h hg hne
theorem Own.mono {W W' : World} {base : Nat} {t : TypeId} {v : Value} {xs : List α} (h : Own E W base t v xs) (hb : Below W.heap.size W W') : Own E W' base t v xs :=
  h.kept (row := none) (grwB hb) (by cases v.ownBlock <;> simp)
theorem Own.far {W : World} {base : Nat} {t : TypeId} {v : Value} {xs : List α} (h : Own E W base t v xs) {p : Addr} (hp : p.block < base) (u : Value) : Own E (W.setCell p u) base t v xs := ownsRow_setCell_below h hp u
theorem Own.drew {W : World} {base : Nat} {t : TypeId} {v : Value} {xs : List α} (h : Own E W base t v xs) : Own E W.drew base t v xs := h
theorem Own.snoc {W' : World} {base : Nat} {t : TypeId} {v' : Value} {xs : List α} {n : Nat} {x : α} (hn : xs.length = n) (h : W'.ownsRow base t E.n v' (n + 1) (E.all xs ++ E.cs x)) : Own E W' base t v' (xs ++ [x]) := by
  unfold Own
  rw [Enc.all_app, List.length_append, hn]
  have : E.all [x] = E.cs x := by simp [Enc.all]
  rw [this]
  exact h
theorem Own.app {W' : World} {base : Nat} {t : TypeId} {v' : Value} {xs ys : List α} {n m : Nat} (hn : xs.length = n) (hm : ys.length = m) (h : W'.ownsRow base t E.n v' (n + m) (E.all xs ++ E.all ys)) : Own E W' base t v' (xs ++ ys) := by
  unfold Own
  rw [Enc.all_app, List.length_append, hn, hm]
  exact h
/-- what a function is given by a list of n values -/
def tab (n : Nat) (f : Nat → α) : List α := (List.range n).map f
theorem tab_len (n : Nat) (f : Nat → α) : (tab n f).length = n := by simp [tab]
theorem tab_succ (n : Nat) (f : Nat → α) : tab (n + 1) f = tab n f ++ [f n] := by simp [tab, List.range_succ]
theorem tab_get {n : Nat} {f : Nat → α} {k : Nat} (h : k < n) : (tab n f)[k]? = some (f k) := by simp [tab, h]
theorem tab_congr {n : Nat} {f g : Nat → α} (h : ∀ q, q < n → f q = g q) : tab n f = tab n g := by
  unfold tab
  exact List.map_congr_left (fun q hq => h q (List.mem_range.1 hq))
end
end Go.Proofs.Ytncgccpkbneagaa.C4
namespace Go.Proofs.Ytncgccpkbneagaa.C4
open Go.RowKit
set_option linter.unusedVariables false
set_option linter.unusedSimpArgs false
attribute [local irreducible] World.setCell

structure GateV where
  f0 : Int
  f1 : Int
  f2 : Int
abbrev GateV.v (x : GateV) : Value := .agg #[.int .i64 x.f0, .int .i64 x.f1, .int .i64 x.f2]
def GateV.cs (x : GateV) : List Value := [.int .i64 x.f0, .int .i64 x.f1, .int .i64 x.f2]
def gateE : Enc GateV := ⟨3, GateV.cs, fun _ => rfl, by decide, fun x v h => by
  simp only [GateV.cs, List.mem_cons, List.not_mem_nil, or_false] at h
  rcases h with rfl | rfl | rfl <;> rfl⟩
def GateV.z : GateV := ⟨0, 0, 0⟩
theorem Ex.atGate {W : World} {g o : Nat} {x : GateV} (h : Ex gateE W g o x) : W.cell? ⟨g, o, none⟩ = some (.int .i64 x.f0) ∧ W.cell? ⟨g, o + 1, none⟩ = some (.int .i64 x.f1) ∧ W.cell? ⟨g, o + 2, none⟩ = some (.int .i64 x.f2) := ⟨h 0 _ rfl, h 1 _ rfl, h 2 _ rfl⟩
theorem Rd.atGate {W : World} {A : Option Addr} {xs : List GateV} (h : Rd gateE W A xs) {k : Nat} {x : GateV} (hx : xs[k]? = some x) : ∃ g o, A = some ⟨g, o, none⟩ ∧ g < W.heap.size ∧ W.cell? ⟨g, o + k * 3, none⟩ = some (.int .i64 x.f0) ∧ W.cell? ⟨g, o + k * 3 + 1, none⟩ = some (.int .i64 x.f1) ∧ W.cell? ⟨g, o + k * 3 + 2, none⟩ = some (.int .i64 x.f2) := by
  obtain ⟨g, o, e, hc⟩ := h k x hx
  have he : o + k * gateE.n = o + k * 3 := rfl
  rw [he] at hc
  exact ⟨g, o, e, hc.lt, hc.atGate⟩
theorem Bk.atGate {W : World} {g : Nat} {t : TypeId} {xs : List GateV} (h : Bk gateE W g t xs) {k : Nat} {x : GateV} (hx : xs[k]? = some x) : W.cell? ⟨g, k * 3, none⟩ = some (.int .i64 x.f0) ∧ W.cell? ⟨g, k * 3 + 1, none⟩ = some (.int .i64 x.f1) ∧ W.cell? ⟨g, k * 3 + 2, none⟩ = some (.int .i64 x.f2) := by
  have hc := h.ex hx
  have he : k * gateE.n = k * 3 := rfl
  rw [he] at hc
  exact hc.atGate
theorem Bs.atGate {W : World} {g : Nat} {t : TypeId} {xs : List GateV} (h : Bs gateE W g t xs) {k : Nat} {x : GateV} (hx : xs[k]? = some x) : W.cell? ⟨g, k * 3, none⟩ = some (.int .i64 x.f0) ∧ W.cell? ⟨g, k * 3 + 1, none⟩ = some (.int .i64 x.f1) ∧ W.cell? ⟨g, k * 3 + 2, none⟩ = some (.int .i64 x.f2) := by
  have hc := h.ex hx
  have he : k * gateE.n = k * 3 := rfl
  rw [he] at hc
  exact hc.atGate
theorem Bk.stGate {W : World} {g : Nat} {t : TypeId} {xs : List GateV} (h : Bk gateE W g t xs) {k : Nat} (x : GateV) (hk : k < xs.length) : Bk gateE (((W.setCell ⟨g, k * 3, none⟩ (.int .i64 x.f0)).setCell ⟨g, k * 3 + 1, none⟩ (.int .i64 x.f1)).setCell ⟨g, k * 3 + 2, none⟩ (.int .i64 x.f2)) g t (xs.set k x) := by
  have h1 := h.set x hk
  have he : k * gateE.n = k * 3 := rfl
  rw [he] at h1
  exact h1
theorem Bs.stGate {W : World} {g : Nat} {t : TypeId} {xs : List GateV} (h : Bs gateE W g t xs) {k : Nat} (x : GateV) (hk : k < xs.length) : Bs gateE (((W.setCell ⟨g, k * 3, none⟩ (.int .i64 x.f0)).setCell ⟨g, k * 3 + 1, none⟩ (.int .i64 x.f1)).setCell ⟨g, k * 3 + 2, none⟩ (.int .i64 x.f2)) g t (xs.set k x) := by
  have h1 := h.set x hk
  have he : k * gateE.n = k * 3 := rfl
  rw [he] at h1
  exact h1
/-- the marks of element j -/
def GateV.mark (k : Int) (j : Nat) : GateV := ⟨k + 3 * (j : Int), k + 3 * (j : Int) + 1, k + 3 * (j : Int) + 1 + 1⟩

def intE : Enc Int := ⟨1, fun x => [.int .i64 x], fun _ => rfl, by decide, fun x v h => by
  simp only [List.mem_cons, List.not_mem_nil, or_false] at h
  rcases h with rfl; rfl⟩
theorem Ex.atInt {W : World} {g o : Nat} {x : Int} (h : Ex intE W g o x) : W.cell? ⟨g, o, none⟩ = some (.int .i64 x) := h 0 _ rfl
theorem Rd.atInt {W : World} {A : Option Addr} {xs : List Int} (h : Rd intE W A xs) {k : Nat} {x : Int} (hx : xs[k]? = some x) : ∃ g o, A = some ⟨g, o, none⟩ ∧ g < W.heap.size ∧ W.cell? ⟨g, o + k, none⟩ = some (.int .i64 x) := by
  obtain ⟨g, o, e, hc⟩ := h k x hx
  have he : o + k * intE.n = o + k := by show o + k * 1 = _; rw [Nat.mul_one]
  rw [he] at hc
  exact ⟨g, o, e, hc.lt, hc.atInt⟩
theorem Bk.atInt {W : World} {g : Nat} {t : TypeId} {xs : List Int} (h : Bk intE W g t xs) {k : Nat} {x : Int} (hx : xs[k]? = some x) : W.cell? ⟨g, k, none⟩ = some (.int .i64 x) := by
  have hc := h.ex hx
  have he : k * intE.n = k := Nat.mul_one k
  rw [he] at hc
  exact hc.atInt
theorem Bs.atInt {W : World} {g : Nat} {t : TypeId} {xs : List Int} (h : Bs intE W g t xs) {k : Nat} {x : Int} (hx : xs[k]? = some x) : W.cell? ⟨g, k, none⟩ = some (.int .i64 x) := by
  have hc := h.ex hx
  have he : k * intE.n = k := Nat.mul_one k
  rw [he] at hc
  exact hc.atInt
theorem Bk.stInt {W : World} {g : Nat} {t : TypeId} {xs : List Int} (h : Bk intE W g t xs) {k : Nat} (x : Int) (hk : k < xs.length) : Bk intE (W.setCell ⟨g, k, none⟩ (.int .i64 x)) g t (xs.set k x) := by
  have h1 := h.set x hk
  have he : k * intE.n = k := Nat.mul_one k
  rw [he] at h1
  exact h1
theorem Bs.stInt {W : World} {g : Nat} {t : TypeId} {xs : List Int} (h : Bs intE W g t xs) {k : Nat} (x : Int) (hk : k < xs.length) : Bs intE (W.setCell ⟨g, k, none⟩ (.int .i64 x)) g t (xs.set k x) := by
  have h1 := h.set x hk
  have he : k * intE.n = k := Nat.mul_one k
  rw [he] at h1
  exact h1
/-- the marks of element j -/
def intMark (k : Int) (j : Nat) : Int := k + (j : Int)
end Go.Proofs.Ytncgccpkbneagaa.C4
namespace Go.Proofs.Ytncgccpkbneagaa.C4
open Go.RowKit
set_option linter.unusedVariables false
set_option linter.unusedSimpArgs false
attribute [local irreducible] World.setCell

theorem infoGate : (Try.prog.info? 59).map (fun i => (i.zero, i.size, i.bytes)) = some (some (.agg #[.int .i64 0, .int .i64 0, .int .i64 0]), 3, 24) := by kernel_rfl
theorem mkGate (n : Nat) (hn : n ≤ 1048576) (w : World) : (Instr.makeSlice 67 (.int .i64 (n : Int)) (.int .i64 (n : Int))).run Try.prog w = .ok (.slice (some ⟨w.heap.size, 0, none⟩) n n) (w.alloc (.cells (gateE.all (List.replicate n GateV.z)).toArray 59)) := by
  obtain ⟨i0, hi, hz0, hz1, hz2⟩ := info_parts infoGate
  have := run_make (P := Try.prog) w 67 59 i0 _ Try.underlying67 hi hz0 .i64 .i64 n n (by omega) (Int.le_refl _) (by rw [hz2]; omega) (by omega)
  rw [this, hz1]
  simp only [Int.toNat_natCast, Value.cells]
  have hm : madeCells #[.int .i64 0, .int .i64 0, .int .i64 0] (n * gateE.n) = _ := madeE (E := gateE) (z := GateV.z) rfl n
  rw [← hm]
  rfl

set_option maxRecDepth 100000 in
set_option maxHeartbeats 2000000 in
theorem toGate (x : GateV) (w : World) :
    Calls Try.prog 42 #[x.v] w fun ee w' => ee = .returned x.v ∧ Below w.heap.size w w' := by
  go_enter Try.func42, Try.ntmps42
  go_wp2_with (fail)
  refine bodyPost_ret (v := x.v) (by first | (simp [results, Try.results42, go_sem, *]; done) | (simp (disch := (first | omega | (simp; done) | (simp; omega))) [results, Try.results42, go_sem, *]; done) | (simp only [results, Try.results42]; go_simp; done)) rfl ⟨rfl, ?_⟩
  (repeat' (first | (with_reducible exact Below.refl _ _) | (with_reducible assumption) | (with_reducible refine Below.alloc ?_ ?_ _) | (with_reducible refine Below.drew ?_) | (with_reducible refine bdN ?_ _) | (with_reducible refine Below.setCell ?_ ?_ _) | (with_reducible refine chn ?_ (by assumption) ?_) | omega | (simp; done) | (simp; omega)))

set_option maxRecDepth 100000 in
set_option maxHeartbeats 2000000 in
theorem eqGate (x : GateV) (w : World) :
    Calls Try.prog 153 #[x.v, x.v] w fun ee w' => ee = .returned (.bool true) ∧ Below w.heap.size w w' := by
  go_enter Try.func153, Try.ntmps153
  go_wp2_with (fail)
  go_ret
  refine ⟨rfl, ?_⟩
  (repeat' (first | (with_reducible exact Below.refl _ _) | (with_reducible assumption) | (with_reducible refine Below.alloc ?_ ?_ _) | (with_reducible refine Below.drew ?_) | (with_reducible refine bdN ?_ _) | (with_reducible refine Below.setCell ?_ ?_ _) | (with_reducible refine chn ?_ (by assumption) ?_) | omega | (simp; done) | (simp; omega)))

set_option maxRecDepth 100000 in
set_option maxHeartbeats 2000000 in
theorem toGateS {A : Option Addr} {n c : Nat} {xs : List GateV} {w : World} (hR : Rd gateE w A xs) (hn : xs.length = n) (hb : n ≤ 1048576) :
    Calls Try.prog 102 #[.slice A n c] w fun ee w' => ee = .returned (.slice (some ⟨w.heap.size, 0, none⟩) n n) ∧ Bk gateE w' w.heap.size 59 xs ∧ Below w.heap.size w w' := by
  have hmk := mkGate n hb
  have HR := lay hR
  have HN := lay hn
  clear hR hn
  go_enter Try.func102, Try.ntmps102
  go_wp2_with (fail)
  go_loopg [4] n (fun k s1 wr => ∃ j : Nat, j + k = n ∧ s1 = .int .i64 (j : Int) ∧ Bk gateE wr w.heap.size 59 (xs.take j ++ List.replicate (n - j) GateV.z) ∧ Below w.heap.size w wr)
  case atStart => exact ⟨0, by omega, rfl, Bk.made rfl, by (repeat' (first | (with_reducible exact Below.refl _ _) | (with_reducible assumption) | (with_reducible refine Below.alloc ?_ ?_ _) | (with_reducible refine Below.drew ?_) | (with_reducible refine bdN ?_ _) | (with_reducible refine Below.setCell ?_ ?_ _) | (with_reducible refine chn ?_ (by assumption) ?_) | omega | (simp; done) | (simp; omega)))⟩
  case round =>
    obtain ⟨j, hj, rfl, hBk, hB⟩ := hrel
    cases gk with
    | zero =>
      obtain rfl : j = n := by omega
      have HBk := lay hBk
      clear hBk
      go_wp2_with (fail)
      go_ret
      refine ⟨rfl, ?_, hB⟩
      have h1 := HBk.out
      rw [Nat.sub_self, List.replicate_zero, List.append_nil, List.take_of_length_le (by rw [HN.out]; exact Nat.le_refl _)] at h1
      exact h1
    | succ m =>
      have hlt : j < n := by omega
      have hx : xs[j]? = some (xs[j]'(by rw [HN.out]; exact hlt)) := List.getElem?_eq_getElem _
      generalize xs[j]'(by rw [HN.out]; exact hlt) = x at hx
      obtain ⟨g, o, rfl, hgw, hC⟩ := HR.out.atGate hx
      have HX := lay hx
      clear hx
      have hC' : wr.cell? ⟨g, o + j * 3, none⟩ = some (.int .i64 x.f0) ∧ wr.cell? ⟨g, o + j * 3 + 1, none⟩ = some (.int .i64 x.f1) ∧ wr.cell? ⟨g, o + j * 3 + 2, none⟩ = some (.int .i64 x.f2) := ⟨(World.cell?_of_block (hB.block g hgw)).trans hC.1, (World.cell?_of_block (hB.block g hgw)).trans hC.2.1, (World.cell?_of_block (hB.block g hgw)).trans hC.2.2⟩
      obtain ⟨q0, q1, q2⟩ := hC'
      have hsz := hBk.lt
      have HBk := lay hBk
      clear hBk hC
      go_wp2_with ((go_at_call 42; ((with_reducible refine (toGate x _).mono ?_); rintro ee w1 ⟨rfl, hb1⟩; have hBk1 := lay (HBk.out.mono hb1); have fr1 := hBk1.out.fr; have hz1 := hBk1.out.lt; obtain ⟨p0, p1, p2⟩ := hBk1.out.atGate (k := j) (x := GateV.z) (filAt HN.out hlt))))
      go_roundg m
      case measure => omega
      case rel =>
        refine ⟨j + 1, by omega, by go_num, ?_, ?_⟩
        · have h1 := hBk1.out.stGate x (k := j) (by rw [filLen HN.out (Nat.le_of_lt hlt)]; exact hlt)
          rw [filSet HN.out HX.out] at h1
          exact h1
        · have hBx : Below w.heap.size w _ := hB.trans (hb1.mono hB.size)
          (repeat' (first | (with_reducible exact Below.refl _ _) | (with_reducible assumption) | (with_reducible refine Below.alloc ?_ ?_ _) | (with_reducible refine Below.drew ?_) | (with_reducible refine bdN ?_ _) | (with_reducible refine Below.setCell ?_ ?_ _) | (with_reducible refine chn ?_ (by assumption) ?_) | omega | (simp; done) | (simp; omega)))

set_option maxRecDepth 100000 in
set_option maxHeartbeats 2000000 in
theorem eqGateS {A B : Option Addr} {n c d : Nat} {xs : List GateV} {w : World} (hA : Rd gateE w A xs) (hB : Rd gateE w B xs) (hn : xs.length = n) (hb : n ≤ 1048576) :
    Calls Try.prog 105 #[.slice A n c, .slice B n d] w fun ee w' => ee = .returned (.bool true) ∧ Below w.heap.size w w' := by
  have HA := lay hA
  have HB := lay hB
  have HN := lay hn
  clear hA hB hn
  go_enter Try.func105, Try.ntmps105
  go_wp2_with (fail)
  go_loopg [5] n (fun k s1 wr => ∃ j : Nat, j + k = n ∧ s1 = .int .i64 (j : Int) ∧ Below w.heap.size w wr)
  case atStart => exact ⟨0, by omega, rfl, by (repeat' (first | (with_reducible exact Below.refl _ _) | (with_reducible assumption) | (with_reducible refine Below.alloc ?_ ?_ _) | (with_reducible refine Below.drew ?_) | (with_reducible refine bdN ?_ _) | (with_reducible refine Below.setCell ?_ ?_ _) | (with_reducible refine chn ?_ (by assumption) ?_) | omega | (simp; done) | (simp; omega)))⟩
  case round =>
    obtain ⟨j, hj, rfl, hB⟩ := hrel
    cases gk with
    | zero =>
      obtain rfl : j = n := by omega
      go_wp2_with (fail)
      go_ret
      exact ⟨rfl, hB⟩
    | succ m =>
      have hlt : j < n := by omega
      have hx : xs[j]? = some (xs[j]'(by rw [HN.out]; exact hlt)) := List.getElem?_eq_getElem _
      generalize xs[j]'(by rw [HN.out]; exact hlt) = x at hx
      obtain ⟨g, o, rfl, hgw, hC⟩ := HA.out.atGate hx
      obtain ⟨g', o', rfl, hgw', hD⟩ := HB.out.atGate hx
      clear hx
      have hC' : wr.cell? ⟨g, o + j * 3, none⟩ = some (.int .i64 x.f0) ∧ wr.cell? ⟨g, o + j * 3 + 1, none⟩ = some (.int .i64 x.f1) ∧ wr.cell? ⟨g, o + j * 3 + 2, none⟩ = some (.int .i64 x.f2) := ⟨(World.cell?_of_block (hB.block g hgw)).trans hC.1, (World.cell?_of_block (hB.block g hgw)).trans hC.2.1, (World.cell?_of_block (hB.block g hgw)).trans hC.2.2⟩
      have hD' : wr.cell? ⟨g', o' + j * 3, none⟩ = some (.int .i64 x.f0) ∧ wr.cell? ⟨g', o' + j * 3 + 1, none⟩ = some (.int .i64 x.f1) ∧ wr.cell? ⟨g', o' + j * 3 + 2, none⟩ = some (.int .i64 x.f2) := ⟨(World.cell?_of_block (hB.block g' hgw')).trans hD.1, (World.cell?_of_block (hB.block g' hgw')).trans hD.2.1, (World.cell?_of_block (hB.block g' hgw')).trans hD.2.2⟩
      obtain ⟨q0, q1, q2⟩ := hC'
      obtain ⟨p0, p1, p2⟩ := hD'
      clear hC hD
      go_wp2_with (fail)
      go_still_tail 8, (by kernel_rfl)
      change wpList _ _ _ _ _ wr.drew
      have hBd : Below w.heap.size w wr.drew := hB.drew
      have hzd := hBd.size
      generalize wr.drew = w2 at *
      go_wp2_with ((go_at_call 153; ((with_reducible refine (eqGate x _).mono ?_); rintro ee w1 ⟨rfl, hb1⟩)))
      go_roundg m
      case measure => omega
      case rel =>
        refine ⟨j + 1, by omega, by go_num, ?_⟩
        (repeat' (first | (with_reducible exact Below.refl _ _) | (with_reducible assumption) | (with_reducible refine Below.alloc ?_ ?_ _) | (with_reducible refine Below.drew ?_) | (with_reducible refine bdN ?_ _) | (with_reducible refine Below.setCell ?_ ?_ _) | (with_reducible refine chn ?_ (by assumption) ?_) | omega | (simp; done) | (simp; omega)))

set_option maxRecDepth 100000 in
set_option maxHeartbeats 2000000 in
theorem szGateS_t {A : Option Addr} {n c : Nat} {k : Int} {w : World} (hn : (n : Int) ≤ k) (hk : k ≤ 1048576) :
    Calls Try.prog 99 #[.slice A n c, .int .i64 k] w fun ee w' => ee = .returned (.int .i64 (k - n)) ∧ Below w.heap.size w w' := by
  have h0 : ¬ (k - (n : Int) < 0) := by omega
  have h1 : 0 ≤ k - (n : Int) := by omega
  go_enter Try.func99, Try.ntmps99
  go_wp2_with (fail)
  go_ret
  exact ⟨rfl, by (repeat' (first | (with_reducible exact Below.refl _ _) | (with_reducible assumption) | (with_reducible refine Below.alloc ?_ ?_ _) | (with_reducible refine Below.drew ?_) | (with_reducible refine bdN ?_ _) | (with_reducible refine Below.setCell ?_ ?_ _) | (with_reducible refine chn ?_ (by assumption) ?_) | omega | (simp; done) | (simp; omega)))⟩

set_option maxRecDepth 100000 in
set_option maxHeartbeats 2000000 in
theorem szGateS_f {A : Option Addr} {n c : Nat} {k : Int} {w : World} (hn : k < (n : Int)) (hk : k ≤ 1048576) (h0 : 0 ≤ k) (hb : n ≤ maxLen) :
    Calls Try.prog 99 #[.slice A n c, .int .i64 k] w fun ee w' => ee = .returned (.int .i64 (-1)) ∧ Below w.heap.size w w' := by
  unfold maxLen at hb
  go_enter Try.func99, Try.ntmps99
  go_wp2_with (fail)
  go_ret
  exact ⟨rfl, by (repeat' (first | (with_reducible exact Below.refl _ _) | (with_reducible assumption) | (with_reducible refine Below.alloc ?_ ?_ _) | (with_reducible refine Below.drew ?_) | (with_reducible refine bdN ?_ _) | (with_reducible refine Below.setCell ?_ ?_ _) | (with_reducible refine chn ?_ (by assumption) ?_) | omega | (simp; done) | (simp; omega)))⟩

set_option maxRecDepth 100000 in
set_option maxHeartbeats 2000000 in
theorem markGateS_n {A : Option Addr} {c : Nat} {k : Int} {w : World} :
    Calls Try.prog 106 #[.slice A 0 c, .int .i64 k] w fun ee w' => ee = .returned (.int .i64 k) ∧ Below w.heap.size w w' := by
  go_enter Try.func106, Try.ntmps106
  go_wp2_with (fail)
  refine wp_loop_rounds 1 ?_
  rw [rounds_succ]; go_wp2_with (fail)
  go_ret
  exact ⟨rfl, by (repeat' (first | (with_reducible exact Below.refl _ _) | (with_reducible assumption) | (with_reducible refine Below.alloc ?_ ?_ _) | (with_reducible refine Below.drew ?_) | (with_reducible refine bdN ?_ _) | (with_reducible refine Below.setCell ?_ ?_ _) | (with_reducible refine chn ?_ (by assumption) ?_) | omega | (simp; done) | (simp; omega)))⟩

set_option maxRecDepth 100000 in
set_option maxHeartbeats 4000000 in
theorem markGateS_s {g n c : Nat} {k : Int} {xs : List GateV} {w : World} (hB : Bs gateE w g 59 xs) (hn : xs.length = n) (hb : n ≤ 1048576) (h0 : 0 ≤ k) (h1 : k ≤ 100000000) :
    Calls Try.prog 106 #[.slice (some ⟨g, 0, none⟩) n c, .int .i64 k] w fun ee w' => ee = .returned (.int .i64 (k + 3 * (n : Int))) ∧ Bs gateE w' g 59 (mks GateV.mark k n) ∧ w.grownBy w' (some g) := by
  have HB := lay hB
  have HN := lay hn
  clear hB hn
  go_enter Try.func106, Try.ntmps106
  go_wp2_with (fail)
  go_loopg [1, 5] n (fun q s0 s1 wr => ∃ j : Nat, j + q = n ∧ s0 = .int .i64 (k + 3 * (j : Int)) ∧ s1 = .int .i64 (j : Int) ∧ Bs gateE wr g 59 (mks GateV.mark k j ++ xs.drop j) ∧ w.grownBy wr (some g))
  case atStart => exact ⟨0, by omega, by first | (go_num; done) | simp, rfl, HB.out, grwB (Below.refl _ _)⟩
  case round =>
    obtain ⟨j, hj, rfl, rfl, hBk, hG⟩ := hrel
    cases gk with
    | zero =>
      obtain rfl : j = n := by omega
      have HBk := lay hBk
      clear hBk
      go_wp2_with (fail)
      go_ret
      refine ⟨rfl, ?_, hG⟩
      have h1 := HBk.out
      rw [List.drop_of_length_le (by rw [HN.out]; exact Nat.le_refl _), List.append_nil] at h1
      exact h1
    | succ m =>
      have hlt : j < n := by omega
      have hl : j < xs.length := by rw [HN.out]; exact hlt
      obtain ⟨x, hx⟩ : ∃ x, xs[j]? = some x := ⟨_, List.getElem?_eq_getElem hl⟩
      obtain ⟨p0, p1, p2⟩ := hBk.atGate (mks_at GateV.mark (k := k) hx)
      have HL := lay hl
      clear hx hl
      have fr := hBk.fr
      have hsz := hBk.lt
      have HBk := lay hBk
      clear hBk
      have b0 : 0 ≤ k + 3 * (j : Int) := by omega
      have b1 : k + 3 * (j : Int) ≤ 1000000000 := by omega
      go_wp2_with (fail)
      go_roundg m
      case measure => omega
      case rel =>
        refine ⟨j + 1, by omega, by go_num, by go_num, ?_, ?_⟩
        · have h1 := HBk.out.stGate (GateV.mark k j) (k := j) (by rw [List.length_append, mks_len, List.length_drop]; have := HL.out; omega)
          rw [mks_set GateV.mark HL.out] at h1
          exact h1
        · exact setN_grown (vs := gateE.cs (GateV.mark k j)) (o := j * 3) hG

theorem markGateS {A : Option Addr} {B n c : Nat} {k : Int} {xs : List GateV} {w : World} (hO : Ow gateE w B 59 A xs) (hn : xs.length = n) (hb : n ≤ 1048576) (h0 : 0 ≤ k) (h1 : k ≤ 100000000) :
    Calls Try.prog 106 #[.slice A n c, .int .i64 k] w fun ee w' => ee = .returned (.int .i64 (k + 3 * (n : Int))) ∧ Ow gateE w' B 59 A (mks GateV.mark k n) ∧ w.grownBy w' (blk A) := by
  rcases hO with ⟨rfl, rfl⟩ | ⟨g, rfl, hg, hB⟩
  · obtain rfl : n = 0 := hn.symm
    refine markGateS_n.mono ?_
    rintro ee w1 ⟨rfl, hb1⟩
    exact ⟨by simp, Or.inl ⟨rfl, rfl⟩, grwB hb1⟩
  · refine (markGateS_s hB hn hb h0 h1).mono ?_
    rintro ee w1 ⟨rfl, hB1, hg1⟩
    exact ⟨rfl, Or.inr ⟨g, rfl, hg, hB1⟩, hg1⟩

end Go.Proofs.Ytncgccpkbneagaa.C4
namespace Go.Proofs.Ytncgccpkbneagaa.C4
open Go.RowKit
set_option linter.unusedVariables false
set_option linter.unusedSimpArgs false
attribute [local irreducible] World.setCell

abbrev circuitV (a0 : Int) (A1 : Option Addr) (n1 c1 : Nat) : Value := .agg #[.int .i64 a0, .slice (A1) n1 c1]
set_option maxRecDepth 100000 in
set_option maxHeartbeats 2000000 in
theorem szCircuit_t {a0 : Int} {A1 : Option Addr} {n1 c1 : Nat} {k : Int} {w : World} (hn : (n1 : Int) ≤ k) (hk : k ≤ 1048576) :
    Calls Try.prog 44 #[circuitV a0 A1 n1 c1, .int .i64 k] w fun ee w' => ee = .returned (.int .i64 (k - n1)) ∧ Below w.heap.size w w' := by
  have h0 : ¬ (k - (n1 : Int) < 0) := by omega
  have h1 : 0 ≤ k - (n1 : Int) := by omega
  go_enter Try.func44, Try.ntmps44
  go_wp2_with ((go_at_call 99; ((with_reducible refine (szGateS_t hn hk).mono ?_); rintro ee w1 ⟨rfl, hb1⟩)))
  go_ret
  refine ⟨rfl, ?_⟩
  (repeat' (first | (with_reducible exact Below.refl _ _) | (with_reducible assumption) | (with_reducible refine Below.alloc ?_ ?_ _) | (with_reducible refine Below.drew ?_) | (with_reducible refine bdN ?_ _) | (with_reducible refine Below.setCell ?_ ?_ _) | (with_reducible refine chn ?_ (by assumption) ?_) | omega | (simp; done) | (simp; omega)))

set_option maxRecDepth 100000 in
set_option maxHeartbeats 2000000 in
theorem szCircuit_f {a0 : Int} {A1 : Option Addr} {n1 c1 : Nat} {k : Int} {w : World} (hn : k < (n1 : Int)) (hk : k ≤ 1048576) (h0 : 0 ≤ k) (hb : n1 ≤ maxLen) :
    Calls Try.prog 44 #[circuitV a0 A1 n1 c1, .int .i64 k] w fun ee w' => ee = .returned (.int .i64 (-1)) ∧ Below w.heap.size w w' := by
  go_enter Try.func44, Try.ntmps44
  go_wp2_with ((go_at_call 99; ((with_reducible refine (szGateS_f hn hk h0 hb).mono ?_); rintro ee w1 ⟨rfl, hb1⟩)))
  go_ret
  refine ⟨rfl, ?_⟩
  (repeat' (first | (with_reducible exact Below.refl _ _) | (with_reducible assumption) | (with_reducible refine Below.alloc ?_ ?_ _) | (with_reducible refine Below.drew ?_) | (with_reducible refine bdN ?_ _) | (with_reducible refine Below.setCell ?_ ?_ _) | (with_reducible refine chn ?_ (by assumption) ?_) | omega | (simp; done) | (simp; omega)))

set_option maxRecDepth 100000 in
set_option maxHeartbeats 2000000 in
theorem toCircuit {a0 : Int} {A1 : Option Addr} {n1 c1 : Nat} {xs1 : List GateV} {w : World} (hR : Rd gateE w A1 xs1) (hn : xs1.length = n1) (hb : n1 ≤ 1048576) :
    Calls Try.prog 46 #[circuitV a0 A1 n1 c1] w fun ee w' => ∃ g1, ee = .returned (circuitV a0 (some ⟨g1, 0, none⟩) n1 n1) ∧ Bk gateE w' g1 59 xs1 ∧ w.heap.size ≤ g1 ∧ Below w.heap.size w w' := by
  have HR := lay hR
  have HN := lay hn
  clear hR hn
  go_enter Try.func46, Try.ntmps46
  go_wp2_with ((go_at_call 102; ((with_reducible refine (toGateS ?_ HN.out hb).mono ?_); (exact HR.out.mono (by (repeat' (first | (with_reducible exact Below.refl _ _) | (with_reducible assumption) | (with_reducible refine Below.alloc ?_ ?_ _) | (with_reducible refine Below.drew ?_) | (with_reducible refine bdN ?_ _) | (with_reducible refine Below.setCell ?_ ?_ _) | (with_reducible refine chn ?_ (by assumption) ?_) | omega | (simp; done) | (simp; omega))))); rintro ee w1 ⟨rfl, hB1, hb1⟩; simp only [World.size_alloc] at hB1; have HB1 := lay hB1; clear hB1; obtain ⟨hc1, hf1, _⟩ := bcl hb1; have hz1 := hb1.size; (try simp at hz1); (try have hx10 : w.heap.size < w1.heap.size := (by omega)); (try have hx11 : w.heap.size + 1 < w1.heap.size := (by omega)); (try have hx12 : w.heap.size + 1 + 1 < w1.heap.size := (by omega)); (try have hx13 : w.heap.size + 1 + 1 + 1 < w1.heap.size := (by omega)))))
  refine bodyPost_ret (v := circuitV a0 (some ⟨w.heap.size + 1 + 1 + 1, 0, none⟩) n1 n1) (by first | (simp [results, Try.results46, go_sem, *]; done) | (simp (disch := (first | omega | (simp; done) | (simp; omega))) [results, Try.results46, go_sem, *]; done) | (simp only [results, Try.results46]; go_simp; done)) rfl ⟨_, rfl, ?_, by omega, ?_⟩
  · refine HB1.out.at_ ?_
    (repeat (rw [Below.heap_setCell _ _ _ _ (by simp; try omega)]))
    try rfl
  · (repeat' (first | (with_reducible exact Below.refl _ _) | (with_reducible assumption) | (with_reducible refine Below.alloc ?_ ?_ _) | (with_reducible refine Below.drew ?_) | (with_reducible refine bdN ?_ _) | (with_reducible refine Below.setCell ?_ ?_ _) | (with_reducible refine chn ?_ (by assumption) ?_) | omega | (simp; done) | (simp; omega)))

set_option maxRecDepth 100000 in
set_option maxHeartbeats 2000000 in
theorem eqCircuit {a0 : Int} {A1 : Option Addr} {n1 c1 : Nat} {xs1 : List GateV} {B1 : Option Addr} {d1 : Nat} {w : World} (hA : Rd gateE w A1 xs1) (hB : Rd gateE w B1 xs1) (hn : xs1.length = n1) (hb : n1 ≤ 1048576) :
    Calls Try.prog 48 #[circuitV a0 A1 n1 c1, circuitV a0 B1 n1 d1] w fun ee w' => ee = .returned (.bool true) ∧ Below w.heap.size w w' := by
  have HA := lay hA
  have HB := lay hB
  have HN := lay hn
  clear hA hB hn
  go_enter Try.func48, Try.ntmps48
  go_wp2_with ((go_at_call 105; ((with_reducible refine (eqGateS ?_ ?_ HN.out hb).mono ?_); (exact HA.out.mono (by (repeat' (first | (with_reducible exact Below.refl _ _) | (with_reducible assumption) | (with_reducible refine Below.alloc ?_ ?_ _) | (with_reducible refine Below.drew ?_) | (with_reducible refine bdN ?_ _) | (with_reducible refine Below.setCell ?_ ?_ _) | (with_reducible refine chn ?_ (by assumption) ?_) | omega | (simp; done) | (simp; omega))))); (exact HB.out.mono (by (repeat' (first | (with_reducible exact Below.refl _ _) | (with_reducible assumption) | (with_reducible refine Below.alloc ?_ ?_ _) | (with_reducible refine Below.drew ?_) | (with_reducible refine bdN ?_ _) | (with_reducible refine Below.setCell ?_ ?_ _) | (with_reducible refine chn ?_ (by assumption) ?_) | omega | (simp; done) | (simp; omega))))); rintro ee w1 ⟨rfl, hb1⟩)))
  go_ret
  refine ⟨rfl, ?_⟩
  (repeat' (first | (with_reducible exact Below.refl _ _) | (with_reducible assumption) | (with_reducible refine Below.alloc ?_ ?_ _) | (with_reducible refine Below.drew ?_) | (with_reducible refine bdN ?_ _) | (with_reducible refine Below.setCell ?_ ?_ _) | (with_reducible refine chn ?_ (by assumption) ?_) | omega | (simp; done) | (simp; omega)))

set_option maxRecDepth 100000 in
set_option maxHeartbeats 2000000 in
theorem markCircuit {a0 : Int} {A1 : Option Addr} {n1 c1 : Nat} {B : Nat} {k : Int} {xs1 : List GateV} {w : World} (hO : Ow gateE w B 59 A1 xs1) (hn : xs1.length = n1) (hb : n1 ≤ 1048576) (h0 : 0 ≤ k) (h1 : k ≤ 100000000) :
    Calls Try.prog 49 #[circuitV a0 A1 n1 c1, .int .i64 k] w fun ee w' => ee = .returned (.int .i64 (k + 3 * (n1 : Int))) ∧ Ow gateE w' B 59 A1 (mks GateV.mark k n1) ∧ w.grownBy w' (blk A1) := by
  have HO := lay hO
  have HN := lay hn
  clear hO hn
  go_enter Try.func49, Try.ntmps49
  go_wp2_with ((go_at_call 106; ((with_reducible refine (markGateS (B := B) ?_ HN.out hb h0 h1).mono ?_); (exact HO.out.mono (by (repeat' (first | (with_reducible exact Below.refl _ _) | (with_reducible assumption) | (with_reducible refine Below.alloc ?_ ?_ _) | (with_reducible refine Below.drew ?_) | (with_reducible refine bdN ?_ _) | (with_reducible refine Below.setCell ?_ ?_ _) | (with_reducible refine chn ?_ (by assumption) ?_) | omega | (simp; done) | (simp; omega))))); rintro ee w1 ⟨rfl, hO1, hg1⟩; have HO1 := lay hO1; have HG1 := lay hg1; clear hO1 hg1)))
  go_ret
  exact ⟨rfl, HO1.out, grwAl HG1.out⟩

end Go.Proofs.Ytncgccpkbneagaa.C4
namespace Go.Proofs.Ytncgccpkbneagaa.C4
open Go.RowKit
set_option linter.unusedVariables false
set_option linter.unusedSimpArgs false
attribute [local irreducible] World.setCell

/-- within bounds, both included -/
def inB (x lo hi : Int) : Bool := decide (lo ≤ x) && decide (x ≤ hi)
theorem inB_iff {x lo hi : Int} : inB x lo hi = true ↔ lo ≤ x ∧ x ≤ hi := by unfold inB; simp
theorem inB_t {x lo hi : Int} (h1 : lo ≤ x) (h2 : x ≤ hi) : inB x lo hi = true := inB_iff.2 ⟨h1, h2⟩
theorem inB_f {x lo hi : Int} (h : ¬ (lo ≤ x ∧ x ≤ hi)) : inB x lo hi = false := by
  cases hb : inB x lo hi
  · rfl
  · exact absurd (inB_iff.1 hb) h
/-- a gate that is valid for n qubits -/
def gB (n : Int) (g : GateV) : Bool :=
  if 1 ≤ g.f0 ∧ g.f0 ≤ 8 then decide (0 ≤ g.f1 ∧ g.f1 < n ∧ g.f2 = 0)
  else if 9 ≤ g.f0 ∧ g.f0 ≤ 11 then decide (0 ≤ g.f1 ∧ g.f1 < n ∧ 0 ≤ g.f2 ∧ g.f2 < n ∧ g.f1 ≠ g.f2)
  else decide (g.f0 = 12 ∧ g.f1 = 0 ∧ g.f2 = 0)
theorem ret_bool {a b : Bool} (h : a = b) : Ending.returned (.bool a) = .returned (.bool b) := by rw [h]
theorem ret_int {k : IntKind} {a b : Int} (h : a = b) : Ending.returned (.int k a) = .returned (.int k b) := by rw [h]
set_option maxRecDepth 100000 in
set_option maxHeartbeats 2000000 in
theorem lin {x lo hi : Int} {t : Bool} (h : inB x lo hi = t) (w : World) :
    Calls Try.prog 93 #[.int .i64 x, .int .i64 lo, .int .i64 hi] w fun ee w' => ee = .returned (.bool t) ∧ w = w' := by
  go_enter Try.func93, Try.ntmps93
  have H := lay h
  clear h
  by_cases h1 : lo ≤ x
  · go_wp2_with (fail)
    go_ret
    refine ⟨ret_bool (by rw [← H.out]; unfold inB; first | (simp [h1]; done) | (simp [h1]; omega) | (simp; omega)), rfl⟩
  · go_wp2_with (fail)
    go_ret
    refine ⟨ret_bool (by rw [← H.out]; unfold inB; first | (simp [h1]; done) | (simp [h1]; omega) | (simp; omega)), rfl⟩

set_option maxRecDepth 100000 in
set_option maxHeartbeats 2000000 in
theorem iqc {n : Int} {t : Bool} (h : inB n 1 5 = t) (w : World) :
    Calls Try.prog 139 #[.int .i64 n] w fun ee w' => ee = .returned (.bool t) ∧ w = w' := by
  go_enter Try.func139, Try.ntmps139
  have H := lay h
  clear h
  by_cases h1 : 1 ≤ n
  · go_wp2_with (fail)
    go_ret
    refine ⟨ret_bool (by rw [← H.out]; unfold inB; first | (simp [h1]; done) | (simp [h1]; omega) | (simp; omega)), rfl⟩
  · go_wp2_with (fail)
    go_ret
    refine ⟨ret_bool (by rw [← H.out]; unfold inB; first | (simp [h1]; done) | (simp [h1]; omega) | (simp; omega)), rfl⟩

set_option maxRecDepth 100000 in
set_option maxHeartbeats 2000000 in
theorem iq {n q : Int} {t : Bool} (h : inB q 0 (n - 1) = t) (w : World) :
    Calls Try.prog 117 #[.int .i64 n, .int .i64 q] w fun ee w' => ee = .returned (.bool t) ∧ w = w' := by
  go_enter Try.func117, Try.ntmps117
  have H := lay h
  clear h
  by_cases h1 : 0 ≤ q
  · go_wp2_with (fail)
    go_ret
    refine ⟨ret_bool (by rw [← H.out]; unfold inB; first | (simp [h1]; done) | (simp [h1]; omega) | (simp; omega)), rfl⟩
  · go_wp2_with (fail)
    go_ret
    refine ⟨ret_bool (by rw [← H.out]; unfold inB; first | (simp [h1]; done) | (simp [h1]; omega) | (simp; omega)), rfl⟩

/-- how many qubits a gate of an existing kind acts on -/
def qa (g : GateV) : Int := if 9 ≤ g.f0 ∧ g.f0 ≤ 11 then 2 else if g.f0 = 12 then 0 else 1
set_option maxRecDepth 100000 in
set_option maxHeartbeats 2000000 in
theorem qat {g : GateV} {q : Int} (h : qa g = q) (w : World) :
    Calls Try.prog 140 #[g.v] w fun ee w' => ee = .returned (.int .i64 q) ∧ Below w.heap.size w w' := by
  obtain rfl := h
  by_cases h9 : g.f0 = 9
  · have H : Hid (qa g = 2) := by show qa g = 2; unfold qa; rw [if_pos (by omega)]
    go_enter Try.func140, Try.ntmps140
    go_wp2_with (fail)
    go_ret
    refine ⟨ret_int H.out.symm, ?_⟩
    (repeat' (first | (with_reducible exact Below.refl _ _) | (with_reducible assumption) | (with_reducible refine Below.alloc ?_ ?_ _) | (with_reducible refine Below.drew ?_) | (with_reducible refine bdN ?_ _) | (with_reducible refine Below.setCell ?_ ?_ _) | (with_reducible refine chn ?_ (by assumption) ?_) | omega | (simp; done) | (simp; omega)))
  by_cases h10 : g.f0 = 10
  · have H : Hid (qa g = 2) := by show qa g = 2; unfold qa; rw [if_pos (by omega)]
    go_enter Try.func140, Try.ntmps140
    go_wp2_with (fail)
    go_ret
    refine ⟨ret_int H.out.symm, ?_⟩
    (repeat' (first | (with_reducible exact Below.refl _ _) | (with_reducible assumption) | (with_reducible refine Below.alloc ?_ ?_ _) | (with_reducible refine Below.drew ?_) | (with_reducible refine bdN ?_ _) | (with_reducible refine Below.setCell ?_ ?_ _) | (with_reducible refine chn ?_ (by assumption) ?_) | omega | (simp; done) | (simp; omega)))
  by_cases h11 : g.f0 = 11
  · have H : Hid (qa g = 2) := by show qa g = 2; unfold qa; rw [if_pos (by omega)]
    go_enter Try.func140, Try.ntmps140
    go_wp2_with (fail)
    go_ret
    refine ⟨ret_int H.out.symm, ?_⟩
    (repeat' (first | (with_reducible exact Below.refl _ _) | (with_reducible assumption) | (with_reducible refine Below.alloc ?_ ?_ _) | (with_reducible refine Below.drew ?_) | (with_reducible refine bdN ?_ _) | (with_reducible refine Below.setCell ?_ ?_ _) | (with_reducible refine chn ?_ (by assumption) ?_) | omega | (simp; done) | (simp; omega)))
  by_cases h12 : g.f0 = 12
  · have H : Hid (qa g = 0) := by show qa g = 0; unfold qa; rw [if_neg (by omega), if_pos h12]
    go_enter Try.func140, Try.ntmps140
    go_wp2_with (fail)
    go_ret
    refine ⟨ret_int H.out.symm, ?_⟩
    (repeat' (first | (with_reducible exact Below.refl _ _) | (with_reducible assumption) | (with_reducible refine Below.alloc ?_ ?_ _) | (with_reducible refine Below.drew ?_) | (with_reducible refine bdN ?_ _) | (with_reducible refine Below.setCell ?_ ?_ _) | (with_reducible refine chn ?_ (by assumption) ?_) | omega | (simp; done) | (simp; omega)))
  · have H : Hid (qa g = 1) := by show qa g = 1; unfold qa; rw [if_neg (by omega), if_neg h12]
    go_enter Try.func140, Try.ntmps140
    go_wp2_with (fail)
    go_ret
    refine ⟨ret_int H.out.symm, ?_⟩
    (repeat' (first | (with_reducible exact Below.refl _ _) | (with_reducible assumption) | (with_reducible refine Below.alloc ?_ ?_ _) | (with_reducible refine Below.drew ?_) | (with_reducible refine bdN ?_ _) | (with_reducible refine Below.setCell ?_ ?_ _) | (with_reducible refine chn ?_ (by assumption) ?_) | omega | (simp; done) | (simp; omega)))

theorem gB_8 {n : Int} {g : GateV} (h : inB g.f0 1 8 = true) : gB n g = (inB g.f1 0 (n - 1) && decide (g.f2 = 0)) := by
  have := inB_iff.1 h
  unfold gB inB; rw [if_pos (by omega), Bool.eq_iff_iff]; simp; omega
theorem gB_11 {n : Int} {g : GateV} (h : inB g.f0 9 11 = true) : gB n g = (inB g.f1 0 (n - 1) && inB g.f2 0 (n - 1) && decide (g.f1 ≠ g.f2)) := by
  have := inB_iff.1 h
  unfold gB inB; rw [if_neg (by omega), if_pos (by omega), Bool.eq_iff_iff]; simp; omega
theorem gB_12 {n : Int} {g : GateV} (h : inB g.f0 1 8 = false) (h2 : inB g.f0 9 11 = false) : gB n g = (decide (g.f0 = 12) && decide (g.f1 = 0) && decide (g.f2 = 0)) := by
  have n1 : ¬ (1 ≤ g.f0 ∧ g.f0 ≤ 8) := fun k => by rw [inB_t k.1 k.2] at h; cases h
  have n2 : ¬ (9 ≤ g.f0 ∧ g.f0 ≤ 11) := fun k => by rw [inB_t k.1 k.2] at h2; cases h2
  unfold gB; rw [if_neg n1, if_neg n2, Bool.eq_iff_iff]; simp; omega
set_option maxRecDepth 100000 in
set_option maxHeartbeats 4000000 in
theorem lg {n : Int} {g : GateV} {t : Bool} (hg : gB n g = t) (hn : 1 ≤ n) (hn2 : n ≤ 5) (w : World) :
    Calls Try.prog 94 #[.int .i64 n, g.v] w fun ee w' => ee = .returned (.bool t) ∧ Below w.heap.size w w' := by
  cases k8 : inB g.f0 1 8
  · cases k11 : inB g.f0 9 11
    · rw [gB_12 k8 k11] at hg
      have HG := lay hg
      have HK8 := lay k8
      have HK11 := lay k11
      clear hg k8 k11
      by_cases c0 : g.f0 = 12
      · by_cases c1 : g.f1 = 0
        · by_cases c2 : g.f2 = 0
          · skip
            go_enter Try.func94, Try.ntmps94
            go_wp2_with (first | (go_at_call 93; ((with_reducible refine (lin HK8.out _).mono ?_); rintro ee w1 ⟨rfl, rfl⟩)) | (go_at_call 93; ((with_reducible refine (lin HK11.out _).mono ?_); rintro ee w1 ⟨rfl, rfl⟩)) | (go_at_call 93; ((with_reducible refine (lin HA.out _).mono ?_); rintro ee w1 ⟨rfl, rfl⟩)) | (go_at_call 93; ((with_reducible refine (lin HB.out _).mono ?_); rintro ee w1 ⟨rfl, rfl⟩)) | (go_at_call 93; ((with_reducible refine (lin (show inB 12 1 8 = false by decide) _).mono ?_); rintro ee w1 ⟨rfl, rfl⟩)) | (go_at_call 93; ((with_reducible refine (lin (show inB 12 9 11 = false by decide) _).mono ?_); rintro ee w1 ⟨rfl, rfl⟩)))
            go_ret
            refine ⟨ret_bool (by rw [← HG.out]; simp [c0, c1, c2]), ?_⟩
            (repeat' (first | (with_reducible exact Below.refl _ _) | (with_reducible assumption) | (with_reducible refine Below.alloc ?_ ?_ _) | (with_reducible refine Below.drew ?_) | (with_reducible refine bdN ?_ _) | (with_reducible refine Below.setCell ?_ ?_ _) | (with_reducible refine chn ?_ (by assumption) ?_) | omega | (simp; done) | (simp; omega)))
          · skip
            go_enter Try.func94, Try.ntmps94
            go_wp2_with (first | (go_at_call 93; ((with_reducible refine (lin HK8.out _).mono ?_); rintro ee w1 ⟨rfl, rfl⟩)) | (go_at_call 93; ((with_reducible refine (lin HK11.out _).mono ?_); rintro ee w1 ⟨rfl, rfl⟩)) | (go_at_call 93; ((with_reducible refine (lin HA.out _).mono ?_); rintro ee w1 ⟨rfl, rfl⟩)) | (go_at_call 93; ((with_reducible refine (lin HB.out _).mono ?_); rintro ee w1 ⟨rfl, rfl⟩)) | (go_at_call 93; ((with_reducible refine (lin (show inB 12 1 8 = false by decide) _).mono ?_); rintro ee w1 ⟨rfl, rfl⟩)) | (go_at_call 93; ((with_reducible refine (lin (show inB 12 9 11 = false by decide) _).mono ?_); rintro ee w1 ⟨rfl, rfl⟩)))
            go_ret
            refine ⟨ret_bool (by rw [← HG.out]; simp [c0, c1, c2]), ?_⟩
            (repeat' (first | (with_reducible exact Below.refl _ _) | (with_reducible assumption) | (with_reducible refine Below.alloc ?_ ?_ _) | (with_reducible refine Below.drew ?_) | (with_reducible refine bdN ?_ _) | (with_reducible refine Below.setCell ?_ ?_ _) | (with_reducible refine chn ?_ (by assumption) ?_) | omega | (simp; done) | (simp; omega)))
        · skip
          go_enter Try.func94, Try.ntmps94
          go_wp2_with (first | (go_at_call 93; ((with_reducible refine (lin HK8.out _).mono ?_); rintro ee w1 ⟨rfl, rfl⟩)) | (go_at_call 93; ((with_reducible refine (lin HK11.out _).mono ?_); rintro ee w1 ⟨rfl, rfl⟩)) | (go_at_call 93; ((with_reducible refine (lin HA.out _).mono ?_); rintro ee w1 ⟨rfl, rfl⟩)) | (go_at_call 93; ((with_reducible refine (lin HB.out _).mono ?_); rintro ee w1 ⟨rfl, rfl⟩)) | (go_at_call 93; ((with_reducible refine (lin (show inB 12 1 8 = false by decide) _).mono ?_); rintro ee w1 ⟨rfl, rfl⟩)) | (go_at_call 93; ((with_reducible refine (lin (show inB 12 9 11 = false by decide) _).mono ?_); rintro ee w1 ⟨rfl, rfl⟩)))
          go_ret
          refine ⟨ret_bool (by rw [← HG.out]; simp [c0, c1]), ?_⟩
          (repeat' (first | (with_reducible exact Below.refl _ _) | (with_reducible assumption) | (with_reducible refine Below.alloc ?_ ?_ _) | (with_reducible refine Below.drew ?_) | (with_reducible refine bdN ?_ _) | (with_reducible refine Below.setCell ?_ ?_ _) | (with_reducible refine chn ?_ (by assumption) ?_) | omega | (simp; done) | (simp; omega)))
      · skip
        go_enter Try.func94, Try.ntmps94
        go_wp2_with (first | (go_at_call 93; ((with_reducible refine (lin HK8.out _).mono ?_); rintro ee w1 ⟨rfl, rfl⟩)) | (go_at_call 93; ((with_reducible refine (lin HK11.out _).mono ?_); rintro ee w1 ⟨rfl, rfl⟩)) | (go_at_call 93; ((with_reducible refine (lin HA.out _).mono ?_); rintro ee w1 ⟨rfl, rfl⟩)) | (go_at_call 93; ((with_reducible refine (lin HB.out _).mono ?_); rintro ee w1 ⟨rfl, rfl⟩)) | (go_at_call 93; ((with_reducible refine (lin (show inB 12 1 8 = false by decide) _).mono ?_); rintro ee w1 ⟨rfl, rfl⟩)) | (go_at_call 93; ((with_reducible refine (lin (show inB 12 9 11 = false by decide) _).mono ?_); rintro ee w1 ⟨rfl, rfl⟩)))
        go_ret
        refine ⟨ret_bool (by rw [← HG.out]; simp [c0]), ?_⟩
        (repeat' (first | (with_reducible exact Below.refl _ _) | (with_reducible assumption) | (with_reducible refine Below.alloc ?_ ?_ _) | (with_reducible refine Below.drew ?_) | (with_reducible refine bdN ?_ _) | (with_reducible refine Below.setCell ?_ ?_ _) | (with_reducible refine chn ?_ (by assumption) ?_) | omega | (simp; done) | (simp; omega)))
    · rw [gB_11 k11] at hg
      have HG := lay hg
      have HK8 := lay k8
      have HK11 := lay k11
      clear hg k8 k11
      cases hA : inB g.f1 0 (n - 1)
      · have HA := lay hA
        clear hA
        go_enter Try.func94, Try.ntmps94
        go_wp2_with (first | (go_at_call 93; ((with_reducible refine (lin HK8.out _).mono ?_); rintro ee w1 ⟨rfl, rfl⟩)) | (go_at_call 93; ((with_reducible refine (lin HK11.out _).mono ?_); rintro ee w1 ⟨rfl, rfl⟩)) | (go_at_call 93; ((with_reducible refine (lin HA.out _).mono ?_); rintro ee w1 ⟨rfl, rfl⟩)) | (go_at_call 93; ((with_reducible refine (lin HB.out _).mono ?_); rintro ee w1 ⟨rfl, rfl⟩)) | (go_at_call 93; ((with_reducible refine (lin (show inB 12 1 8 = false by decide) _).mono ?_); rintro ee w1 ⟨rfl, rfl⟩)) | (go_at_call 93; ((with_reducible refine (lin (show inB 12 9 11 = false by decide) _).mono ?_); rintro ee w1 ⟨rfl, rfl⟩)))
        go_ret
        refine ⟨ret_bool (by rw [← HG.out]; simp [HA.out]), ?_⟩
        (repeat' (first | (with_reducible exact Below.refl _ _) | (with_reducible assumption) | (with_reducible refine Below.alloc ?_ ?_ _) | (with_reducible refine Below.drew ?_) | (with_reducible refine bdN ?_ _) | (with_reducible refine Below.setCell ?_ ?_ _) | (with_reducible refine chn ?_ (by assumption) ?_) | omega | (simp; done) | (simp; omega)))
      · have HA := lay hA
        clear hA
        cases hB : inB g.f2 0 (n - 1)
        · have HB := lay hB
          clear hB
          go_enter Try.func94, Try.ntmps94
          go_wp2_with (first | (go_at_call 93; ((with_reducible refine (lin HK8.out _).mono ?_); rintro ee w1 ⟨rfl, rfl⟩)) | (go_at_call 93; ((with_reducible refine (lin HK11.out _).mono ?_); rintro ee w1 ⟨rfl, rfl⟩)) | (go_at_call 93; ((with_reducible refine (lin HA.out _).mono ?_); rintro ee w1 ⟨rfl, rfl⟩)) | (go_at_call 93; ((with_reducible refine (lin HB.out _).mono ?_); rintro ee w1 ⟨rfl, rfl⟩)) | (go_at_call 93; ((with_reducible refine (lin (show inB 12 1 8 = false by decide) _).mono ?_); rintro ee w1 ⟨rfl, rfl⟩)) | (go_at_call 93; ((with_reducible refine (lin (show inB 12 9 11 = false by decide) _).mono ?_); rintro ee w1 ⟨rfl, rfl⟩)))
          go_ret
          refine ⟨ret_bool (by rw [← HG.out]; simp [HA.out, HB.out]), ?_⟩
          (repeat' (first | (with_reducible exact Below.refl _ _) | (with_reducible assumption) | (with_reducible refine Below.alloc ?_ ?_ _) | (with_reducible refine Below.drew ?_) | (with_reducible refine bdN ?_ _) | (with_reducible refine Below.setCell ?_ ?_ _) | (with_reducible refine chn ?_ (by assumption) ?_) | omega | (simp; done) | (simp; omega)))
        · have HB := lay hB
          clear hB
          by_cases c1 : g.f1 = g.f2
          · skip
            go_enter Try.func94, Try.ntmps94
            go_wp2_with (first | (go_at_call 93; ((with_reducible refine (lin HK8.out _).mono ?_); rintro ee w1 ⟨rfl, rfl⟩)) | (go_at_call 93; ((with_reducible refine (lin HK11.out _).mono ?_); rintro ee w1 ⟨rfl, rfl⟩)) | (go_at_call 93; ((with_reducible refine (lin HA.out _).mono ?_); rintro ee w1 ⟨rfl, rfl⟩)) | (go_at_call 93; ((with_reducible refine (lin HB.out _).mono ?_); rintro ee w1 ⟨rfl, rfl⟩)) | (go_at_call 93; ((with_reducible refine (lin (show inB 12 1 8 = false by decide) _).mono ?_); rintro ee w1 ⟨rfl, rfl⟩)) | (go_at_call 93; ((with_reducible refine (lin (show inB 12 9 11 = false by decide) _).mono ?_); rintro ee w1 ⟨rfl, rfl⟩)))
            go_ret
            refine ⟨ret_bool (by rw [← HG.out]; simp [HA.out, HB.out, c1]), ?_⟩
            (repeat' (first | (with_reducible exact Below.refl _ _) | (with_reducible assumption) | (with_reducible refine Below.alloc ?_ ?_ _) | (with_reducible refine Below.drew ?_) | (with_reducible refine bdN ?_ _) | (with_reducible refine Below.setCell ?_ ?_ _) | (with_reducible refine chn ?_ (by assumption) ?_) | omega | (simp; done) | (simp; omega)))
          · skip
            go_enter Try.func94, Try.ntmps94
            go_wp2_with (first | (go_at_call 93; ((with_reducible refine (lin HK8.out _).mono ?_); rintro ee w1 ⟨rfl, rfl⟩)) | (go_at_call 93; ((with_reducible refine (lin HK11.out _).mono ?_); rintro ee w1 ⟨rfl, rfl⟩)) | (go_at_call 93; ((with_reducible refine (lin HA.out _).mono ?_); rintro ee w1 ⟨rfl, rfl⟩)) | (go_at_call 93; ((with_reducible refine (lin HB.out _).mono ?_); rintro ee w1 ⟨rfl, rfl⟩)) | (go_at_call 93; ((with_reducible refine (lin (show inB 12 1 8 = false by decide) _).mono ?_); rintro ee w1 ⟨rfl, rfl⟩)) | (go_at_call 93; ((with_reducible refine (lin (show inB 12 9 11 = false by decide) _).mono ?_); rintro ee w1 ⟨rfl, rfl⟩)))
            go_ret
            refine ⟨ret_bool (by rw [← HG.out]; simp [HA.out, HB.out, c1]), ?_⟩
            (repeat' (first | (with_reducible exact Below.refl _ _) | (with_reducible assumption) | (with_reducible refine Below.alloc ?_ ?_ _) | (with_reducible refine Below.drew ?_) | (with_reducible refine bdN ?_ _) | (with_reducible refine Below.setCell ?_ ?_ _) | (with_reducible refine chn ?_ (by assumption) ?_) | omega | (simp; done) | (simp; omega)))
  · rw [gB_8 k8] at hg
    have HG := lay hg
    have HK8 := lay k8
    clear hg k8
    cases hA : inB g.f1 0 (n - 1)
    · have HA := lay hA
      clear hA
      go_enter Try.func94, Try.ntmps94
      go_wp2_with (first | (go_at_call 93; ((with_reducible refine (lin HK8.out _).mono ?_); rintro ee w1 ⟨rfl, rfl⟩)) | (go_at_call 93; ((with_reducible refine (lin HK11.out _).mono ?_); rintro ee w1 ⟨rfl, rfl⟩)) | (go_at_call 93; ((with_reducible refine (lin HA.out _).mono ?_); rintro ee w1 ⟨rfl, rfl⟩)) | (go_at_call 93; ((with_reducible refine (lin HB.out _).mono ?_); rintro ee w1 ⟨rfl, rfl⟩)) | (go_at_call 93; ((with_reducible refine (lin (show inB 12 1 8 = false by decide) _).mono ?_); rintro ee w1 ⟨rfl, rfl⟩)) | (go_at_call 93; ((with_reducible refine (lin (show inB 12 9 11 = false by decide) _).mono ?_); rintro ee w1 ⟨rfl, rfl⟩)))
      go_ret
      refine ⟨ret_bool (by rw [← HG.out]; simp [HA.out]), ?_⟩
      (repeat' (first | (with_reducible exact Below.refl _ _) | (with_reducible assumption) | (with_reducible refine Below.alloc ?_ ?_ _) | (with_reducible refine Below.drew ?_) | (with_reducible refine bdN ?_ _) | (with_reducible refine Below.setCell ?_ ?_ _) | (with_reducible refine chn ?_ (by assumption) ?_) | omega | (simp; done) | (simp; omega)))
    · have HA := lay hA
      clear hA
      by_cases c2 : g.f2 = 0
      · skip
        go_enter Try.func94, Try.ntmps94
        go_wp2_with (first | (go_at_call 93; ((with_reducible refine (lin HK8.out _).mono ?_); rintro ee w1 ⟨rfl, rfl⟩)) | (go_at_call 93; ((with_reducible refine (lin HK11.out _).mono ?_); rintro ee w1 ⟨rfl, rfl⟩)) | (go_at_call 93; ((with_reducible refine (lin HA.out _).mono ?_); rintro ee w1 ⟨rfl, rfl⟩)) | (go_at_call 93; ((with_reducible refine (lin HB.out _).mono ?_); rintro ee w1 ⟨rfl, rfl⟩)) | (go_at_call 93; ((with_reducible refine (lin (show inB 12 1 8 = false by decide) _).mono ?_); rintro ee w1 ⟨rfl, rfl⟩)) | (go_at_call 93; ((with_reducible refine (lin (show inB 12 9 11 = false by decide) _).mono ?_); rintro ee w1 ⟨rfl, rfl⟩)))
        go_ret
        refine ⟨ret_bool (by rw [← HG.out]; simp [HA.out, c2]), ?_⟩
        (repeat' (first | (with_reducible exact Below.refl _ _) | (with_reducible assumption) | (with_reducible refine Below.alloc ?_ ?_ _) | (with_reducible refine Below.drew ?_) | (with_reducible refine bdN ?_ _) | (with_reducible refine Below.setCell ?_ ?_ _) | (with_reducible refine chn ?_ (by assumption) ?_) | omega | (simp; done) | (simp; omega)))
      · skip
        go_enter Try.func94, Try.ntmps94
        go_wp2_with (first | (go_at_call 93; ((with_reducible refine (lin HK8.out _).mono ?_); rintro ee w1 ⟨rfl, rfl⟩)) | (go_at_call 93; ((with_reducible refine (lin HK11.out _).mono ?_); rintro ee w1 ⟨rfl, rfl⟩)) | (go_at_call 93; ((with_reducible refine (lin HA.out _).mono ?_); rintro ee w1 ⟨rfl, rfl⟩)) | (go_at_call 93; ((with_reducible refine (lin HB.out _).mono ?_); rintro ee w1 ⟨rfl, rfl⟩)) | (go_at_call 93; ((with_reducible refine (lin (show inB 12 1 8 = false by decide) _).mono ?_); rintro ee w1 ⟨rfl, rfl⟩)) | (go_at_call 93; ((with_reducible refine (lin (show inB 12 9 11 = false by decide) _).mono ?_); rintro ee w1 ⟨rfl, rfl⟩)))
        go_ret
        refine ⟨ret_bool (by rw [← HG.out]; simp [HA.out, c2]), ?_⟩
        (repeat' (first | (with_reducible exact Below.refl _ _) | (with_reducible assumption) | (with_reducible refine Below.alloc ?_ ?_ _) | (with_reducible refine Below.drew ?_) | (with_reducible refine bdN ?_ _) | (with_reducible refine Below.setCell ?_ ?_ _) | (with_reducible refine chn ?_ (by assumption) ?_) | omega | (simp; done) | (simp; omega)))

theorem qa_8 {g : GateV} (h : inB g.f0 1 8 = true) : qa g = 1 := by
  have := inB_iff.1 h; unfold qa; rw [if_neg (by omega), if_neg (by omega)]
theorem qa_11 {g : GateV} (h : inB g.f0 9 11 = true) : qa g = 2 := by
  have := inB_iff.1 h; unfold qa; rw [if_pos (by omega)]
theorem qa_12 {g : GateV} (h : g.f0 = 12) : qa g = 0 := by unfold qa; rw [if_neg (by omega), if_pos h]
/-- a gate that is valid for n qubits, n whatever -/
def vgB (n : Int) (g : GateV) : Bool := inB n 1 5 && gB n g
set_option maxRecDepth 100000 in
set_option maxHeartbeats 4000000 in
theorem ivg {n : Int} {g : GateV} {t : Bool} (hg : vgB n g = t) (w : World) :
    Calls Try.prog 96 #[.int .i64 n, g.v] w fun ee w' => ee = .returned (.bool t) ∧ Below w.heap.size w w' := by
  cases hq : inB n 1 5
  · have HG : Hid (false = t) := by rw [← hg]; unfold vgB; rw [hq]; rfl
    have HQ := lay hq
    clear hg hq
    go_enter Try.func96, Try.ntmps96
    go_wp2_with (first | (go_at_call 139; ((with_reducible refine (iqc HQ.out _).mono ?_); rintro ee w1 ⟨rfl, rfl⟩)) | (go_at_call 117; ((with_reducible refine (iq HA.out _).mono ?_); rintro ee w1 ⟨rfl, rfl⟩)) | (go_at_call 117; ((with_reducible refine (iq HB.out _).mono ?_); rintro ee w1 ⟨rfl, rfl⟩)) | (go_at_call 140; ((with_reducible refine (qat HN.out _).mono ?_); rintro ee w1 ⟨rfl, hb1⟩; obtain ⟨hc1, hf1, _⟩ := bcl hb1; have hz1 := hb1.size; (try simp at hz1); (try have hx10 : w.heap.size < w1.heap.size := (by omega)); (try have hx11 : w.heap.size + 1 < w1.heap.size := (by omega)); (try have hx12 : w.heap.size + 1 + 1 < w1.heap.size := (by omega)); (try have hx13 : w.heap.size + 1 + 1 + 1 < w1.heap.size := (by omega)))))
    go_ret
    refine ⟨ret_bool (by rw [← HG.out]), ?_⟩
    (repeat' (first | (with_reducible exact Below.refl _ _) | (with_reducible assumption) | (with_reducible refine Below.alloc ?_ ?_ _) | (with_reducible refine Below.drew ?_) | (with_reducible refine bdN ?_ _) | (with_reducible refine Below.setCell ?_ ?_ _) | (with_reducible refine chn ?_ (by assumption) ?_) | omega | (simp; done) | (simp; omega)))
  have hg2 : gB n g = t := by rw [← hg]; unfold vgB; rw [hq]; rfl
  clear hg
  have HQ := lay hq
  clear hq
  cases k8 : inB g.f0 1 8
  · cases k11 : inB g.f0 9 11
    · rw [gB_12 k8 k11] at hg2
      have HG := lay hg2
      by_cases c0 : g.f0 = 12
      · have hn := qa_12 c0
        have HN := lay hn
        have l1 : ¬ (g.f0 < 1) := by omega
        have l2 : ¬ (12 < g.f0) := by omega
        have C0 := lay c0
        clear hg2 k8 k11 hn c0
        cases c1 : (g.f1 == 0)
        · have C1 : Hid (¬ (g.f1 = 0)) := by show ¬ _; simpa using c1
          go_enter Try.func96, Try.ntmps96
          go_wp2_with (first | (go_at_call 139; ((with_reducible refine (iqc HQ.out _).mono ?_); rintro ee w1 ⟨rfl, rfl⟩)) | (go_at_call 117; ((with_reducible refine (iq HA.out _).mono ?_); rintro ee w1 ⟨rfl, rfl⟩)) | (go_at_call 117; ((with_reducible refine (iq HB.out _).mono ?_); rintro ee w1 ⟨rfl, rfl⟩)) | (go_at_call 140; ((with_reducible refine (qat HN.out _).mono ?_); rintro ee w1 ⟨rfl, hb1⟩; obtain ⟨hc1, hf1, _⟩ := bcl hb1; have hz1 := hb1.size; (try simp at hz1); (try have hx10 : w.heap.size < w1.heap.size := (by omega)); (try have hx11 : w.heap.size + 1 < w1.heap.size := (by omega)); (try have hx12 : w.heap.size + 1 + 1 < w1.heap.size := (by omega)); (try have hx13 : w.heap.size + 1 + 1 + 1 < w1.heap.size := (by omega)))))
          go_ret
          refine ⟨ret_bool (by rw [← HG.out]; simp [C0.out, C1.out]), ?_⟩
          (repeat' (first | (with_reducible exact Below.refl _ _) | (with_reducible assumption) | (with_reducible refine Below.alloc ?_ ?_ _) | (with_reducible refine Below.drew ?_) | (with_reducible refine bdN ?_ _) | (with_reducible refine Below.setCell ?_ ?_ _) | (with_reducible refine chn ?_ (by assumption) ?_) | omega | (simp; done) | (simp; omega)))
        · have C1 : Hid (g.f1 = 0) := by show _ = _; simpa using c1
          cases c2 : (g.f2 == 0)
          · have C2 : Hid (¬ (g.f2 = 0)) := by show ¬ _; simpa using c2
            go_enter Try.func96, Try.ntmps96
            go_wp2_with (first | (go_at_call 139; ((with_reducible refine (iqc HQ.out _).mono ?_); rintro ee w1 ⟨rfl, rfl⟩)) | (go_at_call 117; ((with_reducible refine (iq HA.out _).mono ?_); rintro ee w1 ⟨rfl, rfl⟩)) | (go_at_call 117; ((with_reducible refine (iq HB.out _).mono ?_); rintro ee w1 ⟨rfl, rfl⟩)) | (go_at_call 140; ((with_reducible refine (qat HN.out _).mono ?_); rintro ee w1 ⟨rfl, hb1⟩; obtain ⟨hc1, hf1, _⟩ := bcl hb1; have hz1 := hb1.size; (try simp at hz1); (try have hx10 : w.heap.size < w1.heap.size := (by omega)); (try have hx11 : w.heap.size + 1 < w1.heap.size := (by omega)); (try have hx12 : w.heap.size + 1 + 1 < w1.heap.size := (by omega)); (try have hx13 : w.heap.size + 1 + 1 + 1 < w1.heap.size := (by omega)))))
            go_ret
            refine ⟨ret_bool (by rw [← HG.out]; simp [C0.out, C1.out, C2.out]), ?_⟩
            (repeat' (first | (with_reducible exact Below.refl _ _) | (with_reducible assumption) | (with_reducible refine Below.alloc ?_ ?_ _) | (with_reducible refine Below.drew ?_) | (with_reducible refine bdN ?_ _) | (with_reducible refine Below.setCell ?_ ?_ _) | (with_reducible refine chn ?_ (by assumption) ?_) | omega | (simp; done) | (simp; omega)))
          · have C2 : Hid (g.f2 = 0) := by show _ = _; simpa using c2
            go_enter Try.func96, Try.ntmps96
            go_wp2_with (first | (go_at_call 139; ((with_reducible refine (iqc HQ.out _).mono ?_); rintro ee w1 ⟨rfl, rfl⟩)) | (go_at_call 117; ((with_reducible refine (iq HA.out _).mono ?_); rintro ee w1 ⟨rfl, rfl⟩)) | (go_at_call 117; ((with_reducible refine (iq HB.out _).mono ?_); rintro ee w1 ⟨rfl, rfl⟩)) | (go_at_call 140; ((with_reducible refine (qat HN.out _).mono ?_); rintro ee w1 ⟨rfl, hb1⟩; obtain ⟨hc1, hf1, _⟩ := bcl hb1; have hz1 := hb1.size; (try simp at hz1); (try have hx10 : w.heap.size < w1.heap.size := (by omega)); (try have hx11 : w.heap.size + 1 < w1.heap.size := (by omega)); (try have hx12 : w.heap.size + 1 + 1 < w1.heap.size := (by omega)); (try have hx13 : w.heap.size + 1 + 1 + 1 < w1.heap.size := (by omega)))))
            go_ret
            refine ⟨ret_bool (by rw [← HG.out]; simp [C0.out, C1.out, C2.out]), ?_⟩
            (repeat' (first | (with_reducible exact Below.refl _ _) | (with_reducible assumption) | (with_reducible refine Below.alloc ?_ ?_ _) | (with_reducible refine Below.drew ?_) | (with_reducible refine bdN ?_ _) | (with_reducible refine Below.setCell ?_ ?_ _) | (with_reducible refine chn ?_ (by assumption) ?_) | omega | (simp; done) | (simp; omega)))
      · have hlt : g.f0 < 1 ∨ 12 < g.f0 := by
          rcases Int.lt_or_le g.f0 1 with h | h
          · exact Or.inl h
          · rcases Int.lt_or_le 12 g.f0 with h2 | h2
            · exact Or.inr h2
            · exfalso
              by_cases h3 : g.f0 ≤ 8
              · rw [inB_t h h3] at k8; cases k8
              · rw [inB_t (by omega) (by omega)] at k11; cases k11
        have C0 := lay c0
        clear hg2 k8 k11 c0
        rcases hlt with hlt | hlt
        · skip
          go_enter Try.func96, Try.ntmps96
          go_wp2_with (first | (go_at_call 139; ((with_reducible refine (iqc HQ.out _).mono ?_); rintro ee w1 ⟨rfl, rfl⟩)) | (go_at_call 117; ((with_reducible refine (iq HA.out _).mono ?_); rintro ee w1 ⟨rfl, rfl⟩)) | (go_at_call 117; ((with_reducible refine (iq HB.out _).mono ?_); rintro ee w1 ⟨rfl, rfl⟩)) | (go_at_call 140; ((with_reducible refine (qat HN.out _).mono ?_); rintro ee w1 ⟨rfl, hb1⟩; obtain ⟨hc1, hf1, _⟩ := bcl hb1; have hz1 := hb1.size; (try simp at hz1); (try have hx10 : w.heap.size < w1.heap.size := (by omega)); (try have hx11 : w.heap.size + 1 < w1.heap.size := (by omega)); (try have hx12 : w.heap.size + 1 + 1 < w1.heap.size := (by omega)); (try have hx13 : w.heap.size + 1 + 1 + 1 < w1.heap.size := (by omega)))))
          go_ret
          refine ⟨ret_bool (by rw [← HG.out]; simp [C0.out]), ?_⟩
          (repeat' (first | (with_reducible exact Below.refl _ _) | (with_reducible assumption) | (with_reducible refine Below.alloc ?_ ?_ _) | (with_reducible refine Below.drew ?_) | (with_reducible refine bdN ?_ _) | (with_reducible refine Below.setCell ?_ ?_ _) | (with_reducible refine chn ?_ (by assumption) ?_) | omega | (simp; done) | (simp; omega)))
        · have hge : ¬ (g.f0 < 1) := by omega
          go_enter Try.func96, Try.ntmps96
          go_wp2_with (first | (go_at_call 139; ((with_reducible refine (iqc HQ.out _).mono ?_); rintro ee w1 ⟨rfl, rfl⟩)) | (go_at_call 117; ((with_reducible refine (iq HA.out _).mono ?_); rintro ee w1 ⟨rfl, rfl⟩)) | (go_at_call 117; ((with_reducible refine (iq HB.out _).mono ?_); rintro ee w1 ⟨rfl, rfl⟩)) | (go_at_call 140; ((with_reducible refine (qat HN.out _).mono ?_); rintro ee w1 ⟨rfl, hb1⟩; obtain ⟨hc1, hf1, _⟩ := bcl hb1; have hz1 := hb1.size; (try simp at hz1); (try have hx10 : w.heap.size < w1.heap.size := (by omega)); (try have hx11 : w.heap.size + 1 < w1.heap.size := (by omega)); (try have hx12 : w.heap.size + 1 + 1 < w1.heap.size := (by omega)); (try have hx13 : w.heap.size + 1 + 1 + 1 < w1.heap.size := (by omega)))))
          go_ret
          refine ⟨ret_bool (by rw [← HG.out]; simp [C0.out]), ?_⟩
          (repeat' (first | (with_reducible exact Below.refl _ _) | (with_reducible assumption) | (with_reducible refine Below.alloc ?_ ?_ _) | (with_reducible refine Below.drew ?_) | (with_reducible refine bdN ?_ _) | (with_reducible refine Below.setCell ?_ ?_ _) | (with_reducible refine chn ?_ (by assumption) ?_) | omega | (simp; done) | (simp; omega)))
    · rw [gB_11 k11] at hg2
      have HG := lay hg2
      have HN := lay (qa_11 k11)
      have l1 : ¬ (g.f0 < 1) := by have := inB_iff.1 k11; omega
      have l2 : ¬ (12 < g.f0) := by have := inB_iff.1 k11; omega
      clear hg2 k8 k11
      cases hA : inB g.f1 0 (n - 1)
      · have HA := lay hA
        clear hA
        go_enter Try.func96, Try.ntmps96
        go_wp2_with (first | (go_at_call 139; ((with_reducible refine (iqc HQ.out _).mono ?_); rintro ee w1 ⟨rfl, rfl⟩)) | (go_at_call 117; ((with_reducible refine (iq HA.out _).mono ?_); rintro ee w1 ⟨rfl, rfl⟩)) | (go_at_call 117; ((with_reducible refine (iq HB.out _).mono ?_); rintro ee w1 ⟨rfl, rfl⟩)) | (go_at_call 140; ((with_reducible refine (qat HN.out _).mono ?_); rintro ee w1 ⟨rfl, hb1⟩; obtain ⟨hc1, hf1, _⟩ := bcl hb1; have hz1 := hb1.size; (try simp at hz1); (try have hx10 : w.heap.size < w1.heap.size := (by omega)); (try have hx11 : w.heap.size + 1 < w1.heap.size := (by omega)); (try have hx12 : w.heap.size + 1 + 1 < w1.heap.size := (by omega)); (try have hx13 : w.heap.size + 1 + 1 + 1 < w1.heap.size := (by omega)))))
        go_ret
        refine ⟨ret_bool (by rw [← HG.out]; simp [HA.out]), ?_⟩
        (repeat' (first | (with_reducible exact Below.refl _ _) | (with_reducible assumption) | (with_reducible refine Below.alloc ?_ ?_ _) | (with_reducible refine Below.drew ?_) | (with_reducible refine bdN ?_ _) | (with_reducible refine Below.setCell ?_ ?_ _) | (with_reducible refine chn ?_ (by assumption) ?_) | omega | (simp; done) | (simp; omega)))
      · have HA := lay hA
        clear hA
        cases hB : inB g.f2 0 (n - 1)
        · have HB := lay hB
          clear hB
          go_enter Try.func96, Try.ntmps96
          go_wp2_with (first | (go_at_call 139; ((with_reducible refine (iqc HQ.out _).mono ?_); rintro ee w1 ⟨rfl, rfl⟩)) | (go_at_call 117; ((with_reducible refine (iq HA.out _).mono ?_); rintro ee w1 ⟨rfl, rfl⟩)) | (go_at_call 117; ((with_reducible refine (iq HB.out _).mono ?_); rintro ee w1 ⟨rfl, rfl⟩)) | (go_at_call 140; ((with_reducible refine (qat HN.out _).mono ?_); rintro ee w1 ⟨rfl, hb1⟩; obtain ⟨hc1, hf1, _⟩ := bcl hb1; have hz1 := hb1.size; (try simp at hz1); (try have hx10 : w.heap.size < w1.heap.size := (by omega)); (try have hx11 : w.heap.size + 1 < w1.heap.size := (by omega)); (try have hx12 : w.heap.size + 1 + 1 < w1.heap.size := (by omega)); (try have hx13 : w.heap.size + 1 + 1 + 1 < w1.heap.size := (by omega)))))
          go_ret
          refine ⟨ret_bool (by rw [← HG.out]; simp [HA.out, HB.out]), ?_⟩
          (repeat' (first | (with_reducible exact Below.refl _ _) | (with_reducible assumption) | (with_reducible refine Below.alloc ?_ ?_ _) | (with_reducible refine Below.drew ?_) | (with_reducible refine bdN ?_ _) | (with_reducible refine Below.setCell ?_ ?_ _) | (with_reducible refine chn ?_ (by assumption) ?_) | omega | (simp; done) | (simp; omega)))
        · have HB := lay hB
          clear hB
          cases c1 : (g.f1 == g.f2)
          · have C1 : Hid (¬ (g.f1 = g.f2)) := by show ¬ _; simpa using c1
            have c3 : (g.f1 != g.f2) = true := by simpa using c1
            go_enter Try.func96, Try.ntmps96
            go_wp2_with (first | (go_at_call 139; ((with_reducible refine (iqc HQ.out _).mono ?_); rintro ee w1 ⟨rfl, rfl⟩)) | (go_at_call 117; ((with_reducible refine (iq HA.out _).mono ?_); rintro ee w1 ⟨rfl, rfl⟩)) | (go_at_call 117; ((with_reducible refine (iq HB.out _).mono ?_); rintro ee w1 ⟨rfl, rfl⟩)) | (go_at_call 140; ((with_reducible refine (qat HN.out _).mono ?_); rintro ee w1 ⟨rfl, hb1⟩; obtain ⟨hc1, hf1, _⟩ := bcl hb1; have hz1 := hb1.size; (try simp at hz1); (try have hx10 : w.heap.size < w1.heap.size := (by omega)); (try have hx11 : w.heap.size + 1 < w1.heap.size := (by omega)); (try have hx12 : w.heap.size + 1 + 1 < w1.heap.size := (by omega)); (try have hx13 : w.heap.size + 1 + 1 + 1 < w1.heap.size := (by omega)))))
            go_ret
            refine ⟨ret_bool (by rw [← HG.out]; simp [HA.out, HB.out, C1.out]), ?_⟩
            (repeat' (first | (with_reducible exact Below.refl _ _) | (with_reducible assumption) | (with_reducible refine Below.alloc ?_ ?_ _) | (with_reducible refine Below.drew ?_) | (with_reducible refine bdN ?_ _) | (with_reducible refine Below.setCell ?_ ?_ _) | (with_reducible refine chn ?_ (by assumption) ?_) | omega | (simp; done) | (simp; omega)))
          · have C1 : Hid (g.f1 = g.f2) := by show _ = _; simpa using c1
            have c3 : (g.f1 != g.f2) = false := by simpa using c1
            go_enter Try.func96, Try.ntmps96
            go_wp2_with (first | (go_at_call 139; ((with_reducible refine (iqc HQ.out _).mono ?_); rintro ee w1 ⟨rfl, rfl⟩)) | (go_at_call 117; ((with_reducible refine (iq HA.out _).mono ?_); rintro ee w1 ⟨rfl, rfl⟩)) | (go_at_call 117; ((with_reducible refine (iq HB.out _).mono ?_); rintro ee w1 ⟨rfl, rfl⟩)) | (go_at_call 140; ((with_reducible refine (qat HN.out _).mono ?_); rintro ee w1 ⟨rfl, hb1⟩; obtain ⟨hc1, hf1, _⟩ := bcl hb1; have hz1 := hb1.size; (try simp at hz1); (try have hx10 : w.heap.size < w1.heap.size := (by omega)); (try have hx11 : w.heap.size + 1 < w1.heap.size := (by omega)); (try have hx12 : w.heap.size + 1 + 1 < w1.heap.size := (by omega)); (try have hx13 : w.heap.size + 1 + 1 + 1 < w1.heap.size := (by omega)))))
            go_ret
            refine ⟨ret_bool (by rw [← HG.out]; simp [HA.out, HB.out, C1.out]), ?_⟩
            (repeat' (first | (with_reducible exact Below.refl _ _) | (with_reducible assumption) | (with_reducible refine Below.alloc ?_ ?_ _) | (with_reducible refine Below.drew ?_) | (with_reducible refine bdN ?_ _) | (with_reducible refine Below.setCell ?_ ?_ _) | (with_reducible refine chn ?_ (by assumption) ?_) | omega | (simp; done) | (simp; omega)))
  · rw [gB_8 k8] at hg2
    have HG := lay hg2
    have HN := lay (qa_8 k8)
    have l1 : ¬ (g.f0 < 1) := by have := inB_iff.1 k8; omega
    have l2 : ¬ (12 < g.f0) := by have := inB_iff.1 k8; omega
    clear hg2 k8
    cases hA : inB g.f1 0 (n - 1)
    · have HA := lay hA
      clear hA
      go_enter Try.func96, Try.ntmps96
      go_wp2_with (first | (go_at_call 139; ((with_reducible refine (iqc HQ.out _).mono ?_); rintro ee w1 ⟨rfl, rfl⟩)) | (go_at_call 117; ((with_reducible refine (iq HA.out _).mono ?_); rintro ee w1 ⟨rfl, rfl⟩)) | (go_at_call 117; ((with_reducible refine (iq HB.out _).mono ?_); rintro ee w1 ⟨rfl, rfl⟩)) | (go_at_call 140; ((with_reducible refine (qat HN.out _).mono ?_); rintro ee w1 ⟨rfl, hb1⟩; obtain ⟨hc1, hf1, _⟩ := bcl hb1; have hz1 := hb1.size; (try simp at hz1); (try have hx10 : w.heap.size < w1.heap.size := (by omega)); (try have hx11 : w.heap.size + 1 < w1.heap.size := (by omega)); (try have hx12 : w.heap.size + 1 + 1 < w1.heap.size := (by omega)); (try have hx13 : w.heap.size + 1 + 1 + 1 < w1.heap.size := (by omega)))))
      go_ret
      refine ⟨ret_bool (by rw [← HG.out]; simp [HA.out]), ?_⟩
      (repeat' (first | (with_reducible exact Below.refl _ _) | (with_reducible assumption) | (with_reducible refine Below.alloc ?_ ?_ _) | (with_reducible refine Below.drew ?_) | (with_reducible refine bdN ?_ _) | (with_reducible refine Below.setCell ?_ ?_ _) | (with_reducible refine chn ?_ (by assumption) ?_) | omega | (simp; done) | (simp; omega)))
    · have HA := lay hA
      clear hA
      cases c2 : (g.f2 == 0)
      · have C2 : Hid (¬ (g.f2 = 0)) := by show ¬ _; simpa using c2
        go_enter Try.func96, Try.ntmps96
        go_wp2_with (first | (go_at_call 139; ((with_reducible refine (iqc HQ.out _).mono ?_); rintro ee w1 ⟨rfl, rfl⟩)) | (go_at_call 117; ((with_reducible refine (iq HA.out _).mono ?_); rintro ee w1 ⟨rfl, rfl⟩)) | (go_at_call 117; ((with_reducible refine (iq HB.out _).mono ?_); rintro ee w1 ⟨rfl, rfl⟩)) | (go_at_call 140; ((with_reducible refine (qat HN.out _).mono ?_); rintro ee w1 ⟨rfl, hb1⟩; obtain ⟨hc1, hf1, _⟩ := bcl hb1; have hz1 := hb1.size; (try simp at hz1); (try have hx10 : w.heap.size < w1.heap.size := (by omega)); (try have hx11 : w.heap.size + 1 < w1.heap.size := (by omega)); (try have hx12 : w.heap.size + 1 + 1 < w1.heap.size := (by omega)); (try have hx13 : w.heap.size + 1 + 1 + 1 < w1.heap.size := (by omega)))))
        go_ret
        refine ⟨ret_bool (by rw [← HG.out]; simp [HA.out, C2.out]), ?_⟩
        (repeat' (first | (with_reducible exact Below.refl _ _) | (with_reducible assumption) | (with_reducible refine Below.alloc ?_ ?_ _) | (with_reducible refine Below.drew ?_) | (with_reducible refine bdN ?_ _) | (with_reducible refine Below.setCell ?_ ?_ _) | (with_reducible refine chn ?_ (by assumption) ?_) | omega | (simp; done) | (simp; omega)))
      · have C2 : Hid (g.f2 = 0) := by show _ = _; simpa using c2
        go_enter Try.func96, Try.ntmps96
        go_wp2_with (first | (go_at_call 139; ((with_reducible refine (iqc HQ.out _).mono ?_); rintro ee w1 ⟨rfl, rfl⟩)) | (go_at_call 117; ((with_reducible refine (iq HA.out _).mono ?_); rintro ee w1 ⟨rfl, rfl⟩)) | (go_at_call 117; ((with_reducible refine (iq HB.out _).mono ?_); rintro ee w1 ⟨rfl, rfl⟩)) | (go_at_call 140; ((with_reducible refine (qat HN.out _).mono ?_); rintro ee w1 ⟨rfl, hb1⟩; obtain ⟨hc1, hf1, _⟩ := bcl hb1; have hz1 := hb1.size; (try simp at hz1); (try have hx10 : w.heap.size < w1.heap.size := (by omega)); (try have hx11 : w.heap.size + 1 < w1.heap.size := (by omega)); (try have hx12 : w.heap.size + 1 + 1 < w1.heap.size := (by omega)); (try have hx13 : w.heap.size + 1 + 1 + 1 < w1.heap.size := (by omega)))))
        go_ret
        refine ⟨ret_bool (by rw [← HG.out]; simp [HA.out, C2.out]), ?_⟩
        (repeat' (first | (with_reducible exact Below.refl _ _) | (with_reducible assumption) | (with_reducible refine Below.alloc ?_ ?_ _) | (with_reducible refine Below.drew ?_) | (with_reducible refine bdN ?_ _) | (with_reducible refine Below.setCell ?_ ?_ _) | (with_reducible refine chn ?_ (by assumption) ?_) | omega | (simp; done) | (simp; omega)))

end Go.Proofs.Ytncgccpkbneagaa.C4
namespace Go.Proofs.Ytncgccpkbneagaa.C4
open Go.ChangeShapes Go.WideShapes Go.ChangeAt Go.RowKit Go.Joins Go.Deep
open Go.ChangeMaps (open_string shut_string)
set_option linter.unusedVariables false
set_option linter.unusedSimpArgs false

theorem own : ownKnob Try.prog.godebug = none := by kernel_rfl
theorem laidOut : laidOutB Try.prog = true := by kernel_rfl
/-- within int -/
abbrev I64 (x : Int) : Prop := -9223372036854775808 ≤ x ∧ x ≤ 9223372036854775807
theorem cellsInt : Try.prog.cellsOf 3 = 1 := by kernel_rfl
theorem listOf {α : Type} {P : Nat → α → Prop} (n : Nat) (h : ∀ i, i < n → ∃ d, P i d) : ∃ xs : List α, xs.length = n ∧ ∀ k x, xs[k]? = some x → P k x := by
  induction n with
  | zero => exact ⟨[], rfl, fun k x hk => by simp at hk⟩
  | succ n ih =>
    obtain ⟨xs, hl, hx⟩ := ih (fun i hi => h i (by omega))
    obtain ⟨d, hd⟩ := h n (by omega)
    refine ⟨xs ++ [d], by simp [hl], fun k x hk => ?_⟩
    rw [List.getElem?_append] at hk
    split at hk
    · exact hx k x hk
    · rename_i hge
      have hkn : k = n := by
        have := (List.getElem?_eq_some_iff.1 hk).1
        simp at this; omega
      subst hkn
      rw [hl, Nat.sub_self] at hk
      simp only [List.getElem?_cons_zero, Option.some.injEq] at hk
      rw [← hk]; exact hd
/-- a slice of flat values that came in -/
theorem sliceArg {α : Type} (E : Enc α) {H : Type} {enc : TypeId × Value → H} {W : World} {base : Nat} {spare : Nat → Bool} {held : Bool} {fuel : Nat} {v : Value} {x : DataW H × List MemPlace} {st et : TypeId} (hu : Try.prog.underlying st = some (.slice et)) (hc : Try.prog.cellsOf et = E.n)
    (hcells : ∀ {fuel : Nat} {cs : List Value} {x : DataW H × List MemPlace}, cs.length = E.n → DataW.trod enc Try.prog W base spare held fuel et cs = some x → ∃ d : α, cs = E.cs d)
    (h : DataW.trod enc Try.prog W base spare held fuel st [v] = some x) :
    ∃ (A : Option Addr) (n cp : Nat) (xs : List α), v = .slice A n cp ∧ Rd E W A xs ∧ xs.length = n ∧ n ≤ maxLen := by
  rcases open_slice hu h with ⟨e, _⟩ | ⟨a, len, cap, m, k, D, Pl, e, hb, hl, hm, hmm, _, hi⟩
  · simp only [List.cons.injEq, and_true] at e
    exact ⟨none, 0, 0, [], e, Rd.nil _ _, rfl, Nat.zero_le _⟩
  · simp only [List.cons.injEq, and_true] at e
    rw [hc] at hi
    have hlm : len ≤ m := by rw [hmm]; split <;> omega
    have each : ∀ i, i < len → ∃ d : α, ∀ j u, (E.cs d)[j]? = some u → W.cell? ((a.add (i * E.n)).add j) = some u := by
      intro i hi2
      obtain ⟨cs', h1, h2⟩ := hi i (by omega)
      obtain ⟨_, hlen, hat⟩ := World.cells?_some h1
      obtain ⟨d, rfl⟩ := hcells hlen h2
      refine ⟨d, fun j u hu => ?_⟩
      have hj := (List.getElem?_eq_some_iff.1 hu).1
      rw [hat j (by rw [E.len] at hj; exact hj), hu]
    obtain ⟨xs, hxl, hx⟩ := listOf len each
    refine ⟨some a, len, cap, xs, e, ?_, hxl, Nat.le_trans hl hm⟩
    have hspot : 0 < len → a.spot = none := by
      intro h0
      obtain ⟨d, hd⟩ := each 0 h0
      have hp : 0 < (E.cs d).length := by rw [E.len]; exact E.pos
      have := hd 0 _ (List.getElem?_eq_getElem hp)
      simp only [Nat.zero_mul, Addr.add, if_true] at this
      exact World.cell?_spot this
    intro k y hk
    have hkl : k < len := by rw [← hxl]; exact (List.getElem?_eq_some_iff.1 hk).1
    have hs := hspot (by omega)
    obtain ⟨g, o, sp⟩ := a
    dsimp only at hs
    subst hs
    have hy := hx k y hk
    simp only [adrAdd] at hy
    exact ⟨g, o, rfl, fun j u hj => hy j u hj⟩
theorem cells_Int {H : Type} {enc : TypeId × Value → H} {W : World} {base : Nat} {spare : Nat → Bool} {held : Bool} {fuel : Nat} {cs : List Value} {x : DataW H × List MemPlace} (hl : cs.length = 1) (hf : DataW.trod enc Try.prog W base spare held fuel 3 cs = some x) : ∃ d : Int, cs = intE.cs d := by
  obtain ⟨a, e0, _, _⟩ := DataW.trod_int Try.underlying3 hf
  exact ⟨a, e0⟩
theorem sliceInt {H : Type} {enc : TypeId × Value → H} {W : World} {base : Nat} {spare : Nat → Bool} {held : Bool} {fuel : Nat} {v : Value} {x : DataW H × List MemPlace} (h : DataW.trod enc Try.prog W base spare held fuel 89 [v] = some x) :
    ∃ (A : Option Addr) (n cp : Nat) (xs : List Int), v = .slice A n cp ∧ Rd intE W A xs ∧ xs.length = n ∧ n ≤ maxLen :=
  sliceArg intE Try.underlying89 cellsInt (fun hl hf => cells_Int hl hf) h
theorem cellsGate : Try.prog.cellsOf 57 = 3 := by kernel_rfl
set_option maxRecDepth 100000 in
theorem fieldsGate : ∃ f0 f1 f2 : Field, Try.prog.underlying 57 = some (.struct #[f0, f1, f2]) ∧ f0.type = 3 ∧ f0.offset = 0 ∧ f1.type = 3 ∧ f1.offset = 1 ∧ f2.type = 3 ∧ f2.offset = 2 := ⟨_, _, _, Try.underlying57, rfl, rfl, rfl, rfl, rfl, rfl⟩
theorem cells_Gate {H : Type} {enc : TypeId × Value → H} {W : World} {base : Nat} {spare : Nat → Bool} {held : Bool} {fuel : Nat} {cs : List Value} {x : DataW H × List MemPlace} (hl : cs.length = 3) (hf : DataW.trod enc Try.prog W base spare held fuel 57 cs = some x) : ∃ d : GateV, cs = gateE.cs d := by
  obtain ⟨f0, f1, f2, hs, t0, o0, t1, o1, t2, o2⟩ := fieldsGate
  match cs, hl with
  | [c0, c1, c2], _ =>
    obtain ⟨y0, y1, y2, n, _, _, h0, h1, h2⟩ := trod_struct3 hs hf
    rw [t0, o0, cellsInt] at h0
    rw [t1, o1, cellsInt] at h1
    rw [t2, o2, cellsInt] at h2
    simp only [List.drop_zero, List.take_succ_cons, List.take_zero, List.drop_succ_cons] at h0 h1 h2
    obtain ⟨a0, e0, _, _⟩ := DataW.trod_int Try.underlying3 h0
    obtain ⟨a1, e1, _, _⟩ := DataW.trod_int Try.underlying3 h1
    obtain ⟨a2, e2, _, _⟩ := DataW.trod_int Try.underlying3 h2
    simp only [List.cons.injEq, and_true] at e0 e1 e2
    subst e0 e1 e2
    exact ⟨⟨a0, a1, a2⟩, rfl⟩
set_option maxRecDepth 100000 in
theorem argGate {H : Type} {enc : TypeId × Value → H} {W : World} {base : Nat} {spare : Nat → Bool} {held : Bool} {r : Reach} {b0 : Nat} {v : Value} {d : DataW H} {p : List MemPlace}
    (hv : Value.okWide Try.prog W r b0 57 v) (h : DataW.Trod enc Try.prog W base spare held 57 v d p) :
    ∃ x : GateV, v = x.v := by
  obtain ⟨f0, f1, f2, hs, _⟩ := fieldsGate
  obtain ⟨cs, rfl, hsz⟩ := okWide_struct hs hv
  obtain ⟨fuel, hf⟩ := h
  obtain ⟨d, hd⟩ := cells_Gate (cs := cs.toList) (by rw [Array.length_toList]; exact hsz.trans cellsGate) hf
  refine ⟨d, ?_⟩
  have : cs = (gateE.cs d).toArray := by rw [← hd]
  rw [this]; rfl
theorem sliceGate {H : Type} {enc : TypeId × Value → H} {W : World} {base : Nat} {spare : Nat → Bool} {held : Bool} {fuel : Nat} {v : Value} {x : DataW H × List MemPlace} (h : DataW.trod enc Try.prog W base spare held fuel 62 [v] = some x) :
    ∃ (A : Option Addr) (n cp : Nat) (xs : List GateV), v = .slice A n cp ∧ Rd gateE W A xs ∧ xs.length = n ∧ n ≤ maxLen :=
  sliceArg gateE Try.underlying62 cellsGate (fun hl hf => cells_Gate hl hf) h
end Go.Proofs.Ytncgccpkbneagaa.C4
