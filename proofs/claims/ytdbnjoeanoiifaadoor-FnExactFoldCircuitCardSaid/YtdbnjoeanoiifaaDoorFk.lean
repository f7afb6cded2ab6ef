/- Repetitions in lists of gates: plain facts. -/
import Derived.Test.YtdbnjoeanoiifaaDoorFc
namespace Go.Proofs.YtdbnjoeanoiifaaDoor
open Go.RowKit
set_option linter.unusedVariables false
set_option linter.unusedSimpArgs false

/-- the i-th block of length q -/
def bkq (l : List GateV) (q i : Nat) : List GateV := (l.drop (i * q)).take q
theorem bkq_len {l : List GateV} {q i : Nat} (h : (i + 1) * q ≤ l.length) : (bkq l q i).length = q := by
  unfold bkq; rw [List.length_take, List.length_drop]; rw [Nat.add_mul] at h; omega
theorem bkq_at {l : List GateV} {q i k : Nat} (hk : k < q) : (bkq l q i)[k]? = l[i * q + k]? := by
  unfold bkq; rw [List.getElem?_take, if_pos hk, List.getElem?_drop]
theorem bkq_eq {l : List GateV} {q i : Nat} (h : ∀ k, k < q → l[i * q + k]? = l[k]?) : bkq l q i = bkq l q 0 := by
  apply List.ext_getElem?
  intro k
  by_cases hk : k < q
  · rw [bkq_at hk, bkq_at hk, Nat.zero_mul, Nat.zero_add]; exact h k hk
  · have e : ∀ i, (bkq l q i)[k]? = none := fun i => by unfold bkq; rw [List.getElem?_take, if_neg hk]
    rw [e, e]
theorem bkq_ne {l : List GateV} {q i k : Nat} (hk : k < q) (h : l[i * q + k]? ≠ l[k]?) : bkq l q i ≠ bkq l q 0 := fun e => h (by
  have this : (bkq l q i)[k]? = (bkq l q 0)[k]? := congrArg (·[k]?) e
  rw [bkq_at hk, bkq_at hk, Nat.zero_mul, Nat.zero_add] at this
  exact this)
open Classical in
/-- how often the first block follows one another, from n on -/
noncomputable def tmG (l : List GateV) (q : Nat) : Nat → Nat → Nat
  | 0, n => n
  | f + 1, n => if (n + 1) * q ≤ l.length ∧ bkq l q n = bkq l q 0 then tmG l q f (n + 1) else n
noncomputable def tm (l : List GateV) (q : Nat) : Nat := tmG l q 98 1
theorem tmG_go {l : List GateV} {q f n : Nat} (h1 : (n + 1) * q ≤ l.length) (h2 : bkq l q n = bkq l q 0) : tmG l q (f + 1) n = tmG l q f (n + 1) := by
  rw [tmG, if_pos ⟨h1, h2⟩]
theorem tmG_stop {l : List GateV} {q f n : Nat} (h : ¬ ((n + 1) * q ≤ l.length ∧ bkq l q n = bkq l q 0)) : tmG l q f n = n := by
  cases f with
  | zero => rfl
  | succ f => rw [tmG, if_neg h]
theorem tmG_bd (l : List GateV) (q : Nat) : ∀ (f n : Nat), n ≤ tmG l q f n ∧ tmG l q f n ≤ n + f ∧ (n * q ≤ l.length → tmG l q f n * q ≤ l.length)
  | 0, n => ⟨Nat.le_refl _, Nat.le_refl _, fun h => h⟩
  | f + 1, n => by
    rw [tmG]
    split
    · rename_i h
      obtain ⟨a, b, c⟩ := tmG_bd l q f (n + 1)
      exact ⟨by omega, by omega, fun _ => c h.1⟩
    · exact ⟨Nat.le_refl _, by omega, fun h => h⟩
theorem tm_bd {l : List GateV} {q : Nat} (h : q ≤ l.length) : 1 ≤ tm l q ∧ tm l q ≤ 99 ∧ tm l q * q ≤ l.length := by
  obtain ⟨a, b, c⟩ := tmG_bd l q 98 1
  exact ⟨a, b, c (by omega)⟩
/-- one step of the search for the best repetition -/
noncomputable def bstep (l : List GateV) (p : Nat × Nat) (q : Nat) : Nat × Nat := if 2 ≤ tm l q ∧ p.1 * p.2 < q * tm l q then (q, tm l q) else p
/-- the best among the lengths up to k -/
noncomputable def bst (l : List GateV) : Nat → Nat × Nat
  | 0 => (1, 1)
  | k + 1 => bstep l (bst l k) (k + 1)
theorem bst_bd (l : List GateV) : ∀ k, k ≤ l.length → k ≤ 8 → 1 ≤ l.length → 1 ≤ (bst l k).1 ∧ (bst l k).1 ≤ 8 ∧ 1 ≤ (bst l k).2 ∧ (bst l k).2 ≤ 99 ∧ (bst l k).1 * (bst l k).2 ≤ l.length ∧ ((bst l k).2 = 1 → (bst l k).1 = 1)
  | 0, _, _, h => ⟨Nat.le_refl _, by show 1 ≤ 8; decide, Nat.le_refl _, by show 1 ≤ 99; decide, by show 1 * 1 ≤ _; omega, fun _ => rfl⟩
  | k + 1, hk, h8, h => by
    have ih := bst_bd l k (by omega) (by omega) h
    show 1 ≤ (bstep l (bst l k) (k + 1)).1 ∧ _
    show 1 ≤ (bstep l (bst l k) (k + 1)).1 ∧ (bstep l (bst l k) (k + 1)).1 ≤ 8 ∧ 1 ≤ (bstep l (bst l k) (k + 1)).2 ∧ (bstep l (bst l k) (k + 1)).2 ≤ 99 ∧ (bstep l (bst l k) (k + 1)).1 * (bstep l (bst l k) (k + 1)).2 ≤ l.length ∧ ((bstep l (bst l k) (k + 1)).2 = 1 → (bstep l (bst l k) (k + 1)).1 = 1)
    unfold bstep
    split
    · rename_i hc
      obtain ⟨t1, t2, t3⟩ := tm_bd (l := l) (q := k + 1) hk
      refine ⟨by dsimp only; omega, h8, t1, t2, ?_, fun e => ?_⟩
      · dsimp only; rw [Nat.mul_comm]; exact t3
      · dsimp only at e; omega
    · exact ih
/-- the model's pair: nothing found is (0, 0) -/
def spr (p : Nat × Nat) : Nat × Nat := if p.2 = 1 then (0, 0) else p
/-- the best repetition at the front -/
noncomputable def best (l : List GateV) : Nat × Nat := bst l (min 8 l.length)
theorem best_bd {l : List GateV} (h : 1 ≤ l.length) : 1 ≤ (best l).1 ∧ (best l).1 ≤ 8 ∧ 1 ≤ (best l).2 ∧ (best l).2 ≤ 99 ∧ (best l).1 * (best l).2 ≤ l.length ∧ ((best l).2 = 1 → (best l).1 = 1) := bst_bd l _ (Nat.min_le_right _ _) (Nat.min_le_left _ _) h
/-- two digits -/
def dg2 (n : Nat) : ByteArray := if n < 10 then dgt n else dgt (n / 10) ++ dgt (n % 10)
theorem dg2_size (n : Nat) : (dg2 n).size ≤ 2 := by
  unfold dg2
  split
  · rw [dgt_size]; decide
  · rw [ByteArray.size_append, dgt_size, dgt_size]; decide
def tRep : ByteArray := ⟨#[114, 101, 112, 101, 97, 116, 32]⟩
def tOpen : ByteArray := ⟨#[32, 123, 10]⟩
def tEnd : ByteArray := ⟨#[125, 10]⟩
/-- the text of what is folded -/
noncomputable def piece (l : List GateV) : ByteArray := if 2 ≤ (best l).2 then (((tRep ++ dg2 (best l).2) ++ tOpen) ++ lns ⟨#[]⟩ (l.take (best l).1)) ++ tEnd else lns ⟨#[]⟩ (l.take (best l).1)
noncomputable def rest (l : List GateV) : List GateV := l.drop ((best l).1 * (best l).2)
open Classical in
noncomputable def fld : Nat → ByteArray → List GateV → ByteArray
  | 0, s, _ => s
  | f + 1, s, l => if l = [] then s else fld f (s ++ piece l) (rest l)
theorem lns_sz0 (xs : List GateV) : (lns ⟨#[]⟩ xs).size ≤ 9 * xs.length := by have := lns_size ⟨#[]⟩ xs; have h2 : (⟨#[]⟩ : ByteArray).size = 0 := rfl; omega
theorem piece_size (l : List GateV) : (piece l).size ≤ 14 + 9 * (best l).1 := by
  have h1 := lns_sz0 (l.take (best l).1)
  have h2 : (l.take (best l).1).length ≤ (best l).1 := by rw [List.length_take]; exact Nat.min_le_left _ _
  have h3 := dg2_size (best l).2
  have a1 : tRep.size = 7 := rfl
  have a2 : tOpen.size = 3 := rfl
  have a3 : tEnd.size = 2 := rfl
  unfold piece
  split
  · rw [ByteArray.size_append, ByteArray.size_append, ByteArray.size_append, ByteArray.size_append]; omega
  · omega
theorem rest_len {l : List GateV} (h : l ≠ []) : (rest l).length + (best l).1 * (best l).2 = l.length ∧ 1 ≤ (best l).1 * (best l).2 := by
  have hl : 1 ≤ l.length := by cases l with | nil => exact absurd rfl h | cons x xs => simp
  obtain ⟨b1, b2, b3, b4, b5, b6⟩ := best_bd hl
  refine ⟨by unfold rest; rw [List.length_drop]; omega, Nat.mul_le_mul b1 b3⟩
theorem fld_go {f : Nat} {s : ByteArray} {l : List GateV} (h : l ≠ []) : fld (f + 1) s l = fld f (s ++ piece l) (rest l) := by
  rw [fld, if_neg h]
theorem fld_nil (f : Nat) (s : ByteArray) : fld f s [] = s := by cases f with | zero => rfl | succ f => rw [fld, if_pos rfl]
/-- the address of a slice from l on, of capacity m -/
def sla (a : Option Addr) (l m s : Nat) : Option Addr := if m = l then a else a.map (·.add (l * s))
theorem Rd.slc {α : Type} {E : Enc α} {W : World} {A : Option Addr} {xs : List α} {n c : Nat} (h : Rd E W A xs) (hn : xs.length = n) (hc : n ≤ c) (i : Nat) : Rd E W (sla A i c E.n) (xs.drop i) := by
  unfold sla
  split
  · rename_i e
    have : xs.drop i = [] := List.drop_eq_nil_of_le (by omega)
    rw [this]; exact Rd.nil _ _
  · intro k x hk
    rw [List.getElem?_drop] at hk
    obtain ⟨g, o, rfl, hx⟩ := h (i + k) x hk
    refine ⟨g, o + i * E.n, ?_, ?_⟩
    · simp only [Option.map_some]; rw [show (⟨g, o, none⟩ : Addr).add (i * E.n) = ⟨g, o + i * E.n, none⟩ from adrAdd g o _]
    · rw [Nat.add_assoc, ← Nat.add_mul]; exact hx
end Go.Proofs.YtdbnjoeanoiifaaDoor
