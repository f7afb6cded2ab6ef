/- The tableau of a gate as a plain function. -/
import Derived.Test.YtjedpeoafpljhaaPid
import Derived.Test.YtjedpeoafpljhaaPis
import Derived.Test.YtjedpeoafpljhaaGmA
namespace Go.Proofs.Ytjedpeoafpljhaa.C4
open Go.RowKit
set_option linter.unusedVariables false
set_option linter.unusedSimpArgs false
attribute [local irreducible] World.setCell

open GM
/-- the image of X on qubit q under a gate, and of Z -/
def gtX (k a b q : Nat) : PauliV :=
  match k with
  | 1 => if q = a then genZ a else genX q
  | 3 => if q = a then pv 2 (2 ^ a) 0 else genX q
  | 4 => if q = a then pv 2 (2 ^ a) 0 else genX q
  | 5 => if q = a then pv 0 (2 ^ a) (2 ^ a) else genX q
  | 6 => if q = a then pv 2 (2 ^ a) (2 ^ a) else genX q
  | 9 => if q = a then pv 0 (2 ^ a ||| 2 ^ b) 0 else genX q
  | 10 => if q = a then pv 0 (2 ^ a) (2 ^ b) else if q = b then pv 0 (2 ^ b) (2 ^ a) else genX q
  | 11 => if q = a then genX b else if q = b then genX a else genX q
  | _ => genX q
def gtZ (k a b q : Nat) : PauliV :=
  match k with
  | 1 => if q = a then genX a else genZ q
  | 2 => if q = a then pv 2 0 (2 ^ a) else genZ q
  | 3 => if q = a then pv 2 0 (2 ^ a) else genZ q
  | 9 => if q = b then pv 0 0 (2 ^ b ||| 2 ^ a) else genZ q
  | 11 => if q = a then genZ b else if q = b then genZ a else genZ q
  | _ => genZ q
theorem or_all : (allN 5 fun a => allN 5 fun b => decide (bits .or .i64 ((2 ^ a : Nat) : Int) ((pw b : Nat) : Int) = ((2 ^ a ||| 2 ^ b : Nat) : Int))) = true := by decide +kernel
theorem or_at {a b : Nat} (ha : a < 5) (hb : b < 5) : bits .or .i64 ((2 ^ a : Nat) : Int) ((pw b : Nat) : Int) = ((2 ^ a ||| 2 ^ b : Nat) : Int) := of_decide_eq_true (allN_get (allN_get or_all ha) hb)
theorem tab_set {n a : Nat} {f g : Nat → PauliV} {v : PauliV} (ha : g a = v) (h : ∀ q, q < n → q ≠ a → g q = f q) : (tab n f).set a v = tab n g := by
  apply List.ext_getElem?
  intro q
  rw [List.getElem?_set]
  by_cases hq : q < n
  · have e1 : (tab n g)[q]? = some (g q) := tab_get hq
    have e2 : (tab n f)[q]? = some (f q) := tab_get hq
    rw [e1, e2]
    by_cases e : a = q
    · subst e
      rw [if_pos rfl, if_pos (by rw [tab_len]; exact hq), ha]
    · rw [if_neg e, h q hq (fun h => e h.symm)]
  · have h1 : (tab n g)[q]? = none := by rw [List.getElem?_eq_none]; rw [tab_len]; omega
    have h2 : (tab n f)[q]? = none := by rw [List.getElem?_eq_none]; rw [tab_len]; omega
    rw [h1]
    by_cases e : a = q
    · rw [if_pos e]; rw [if_neg (by rw [tab_len]; omega)]
    · rw [if_neg e, h2]
end Go.Proofs.Ytjedpeoafpljhaa.C4
