/- The map of the products of letters. -/
import Derived.Test.YtjedpeoafpljhaaPl
import Derived.Maps.Own
import Derived.Maps.Views
import Derived.Maps.OwnSet
import Derived.DeepKeys4
namespace Go.Proofs.Ytjedpeoafpljhaa.C4
open Go.RowKit
set_option linter.unusedVariables false
set_option linter.unusedSimpArgs false
attribute [local irreducible] World.setCell

/-- a key -/
abbrev kp (a b : Nat) : Value := .agg #[.int .i64 (a : Int), .int .i64 (b : Int)]
noncomputable def kl (a b : Nat) : Lit := (keyOf Try.prog 165 (kp a b)).getD .nil
def isStr : Option Lit → Bool
  | some _ => true
  | none => false
theorem of_isStr {o : Option Lit} (h : isStr o = true) : o = some (o.getD .nil) := by cases o with
  | none => cases h
  | some x => rfl
set_option maxRecDepth 1000000 in
theorem key_all : (allB 4 fun a => allB 4 fun b => isStr (keyOf Try.prog 165 (kp a b))) = true := by decide +kernel
theorem key_at {a b : Nat} (ha : a < 4) (hb : b < 4) : keyOf Try.prog 165 (kp a b) = some (kl a b) := of_isStr (allB_get (allB_get key_all ha) hb)
attribute [local irreducible] kl
theorem klaw : Go.Maps.Keyed Try.prog 165 := Go.Maps.Keyed.of_law (deep_law_laid (m := 5) (by kernel_rfl) (by decide) (by decide +kernel) (by kernel_rfl) (by kernel_rfl))
theorem kl_ne {a b c d : Nat} (ha : a < 4) (hb : b < 4) (hc : c < 4) (hd : d < 4) (h : ¬ (a = c ∧ b = d)) : kl a b ≠ kl c d := fun e => by
  have h1 := key_at ha hb
  rw [e] at h1
  have h2 := klaw.inj h1 (key_at hc hd)
  simp only [Value.agg.injEq, Array.mk.injEq, List.cons.injEq, Value.int.injEq, true_and, and_true] at h2
  exact h (by omega)
/-- which letters the j-th key is, and its element -/
def k1 (j : Nat) : Nat := [1, 3, 2, 3, 2, 1].getD j 0
def k2 (j : Nat) : Nat := [3, 2, 1, 1, 3, 2].getD j 0
def k3 (j : Nat) : Nat := [1, 1, 1, 3, 3, 3].getD j 0
def has (m j : Nat) : Bool := m / 2 ^ j % 2 == 1
/-- what a map holds that has the keys of m -/
def sgm (m a b : Nat) : Nat := (List.range 6).foldr (fun j r => if has m j && (k1 j == a && k2 j == b) then k3 j else r) 0
set_option maxRecDepth 1000000 in
theorem sgm_63 : (allB 4 fun a => allB 4 fun b => decide (sgm 63 a b = sg a b)) = true := by decide +kernel
set_option maxRecDepth 1000000 in
theorem sgm_up : (allB 64 fun m => allB 6 fun j => has m j || allB 4 fun a => allB 4 fun b => decide (sgm (m + 2 ^ j) a b = if a = k1 j ∧ b = k2 j then k3 j else sgm m a b)) = true := by decide +kernel
theorem k_4 : (allB 6 fun j => decide (k1 j < 4 ∧ k2 j < 4)) = true := by decide +kernel
noncomputable abbrev pE : Value → Option (DataW Unit × List MemPlace) := plainElem Try.prog 3
abbrev zL (n : Nat) : DataW Unit := .lit (.int .i64 (n : Int))
/-- block r is a map that has the keys of m, with their elements -/
def PhM (m : Nat) (W : World) (r : Nat) : Prop := ∃ (D : DataW Unit) (n : Nat), n ≤ 100 ∧ W.ownsMap Try.prog 165 pE r n D ∧ Go.Maps.IsMap D ∧ ∀ a b, a < 4 → b < 4 → D.atKey (kl a b) (zL 0) = zL (sgm m a b)
def PhN (m c : Nat) (W : World) (r : Nat) : Prop := ∃ (D : DataW Unit), W.ownsMap Try.prog 165 pE r c D ∧ Go.Maps.IsMap D ∧ ∀ a b, a < 4 → b < 4 → D.atKey (kl a b) (zL 0) = zL (sgm m a b)
theorem PhN.m {m c r : Nat} {W : World} (h : PhN m c W r) (hc : c ≤ 100) : PhM m W r := by
  obtain ⟨D, h1, h2, h3⟩ := h
  exact ⟨D, c, hc, h1, h2, h3⟩
theorem PhM.kept {m r : Nat} {W W' : World} {row : Option Nat} (h : PhM m W r) (hg : W.grownBy W' row) (hne : some r ≠ row) : PhM m W' r := by
  obtain ⟨D, n, h0, h1, h2, h3⟩ := h
  exact ⟨D, n, h0, h1.kept hg hne, h2, h3⟩
theorem PhM.mono {m r : Nat} {W W' : World} (h : PhM m W r) (hb : Below W.heap.size W W') : PhM m W' r := h.kept (row := none) (grwB hb) (by simp)
theorem PhM.lt {m r : Nat} {W : World} (h : PhM m W r) : r < W.heap.size := by
  obtain ⟨D, n, h0, h1, h2, h3⟩ := h
  exact h1.lt
theorem PhM.drew {m r : Nat} {W : World} (h : PhM m W r) : PhM m W.drew r := by
  obtain ⟨D, n, h0, h1, h2, h3⟩ := h
  exact ⟨D, n, h0, h1.drew, h2, h3⟩
theorem PhM.far {m r g o : Nat} {W : World} (h : PhM m W r) {v : Value} (hne : r ≠ g) : PhM m (W.setCell ⟨g, o, none⟩ v) r :=
  h.kept (row := some g) (setN_grown (vs := [v]) (grwB (Below.refl _ _))) (fun e => hne (Option.some.inj e))
theorem wf_all : (allB 6 fun j => (Lit.int .i64 ((k3 j : Nat) : Int)).wf) = true := by decide +kernel
theorem zeroI (w : World) : (zeroValue 3).run Try.prog w = .ok (.int .i64 0) w := by kernel_rfl
/-- the look-up -/
theorem ph_look {r a b : Nat} {W : World} (h : PhM 63 W r) (ha : a < 4) (hb : b < 4) : (Instr.lookup 120 (.map (some r)) (kp a b) false).run Try.prog W = .ok (.int .i64 ((sg a b : Nat) : Int)) W := by
  obtain ⟨D, n, h0, h1, h2, h3⟩ := h
  obtain ⟨c, hrun, hat, -⟩ := h1.lookup_int klaw Try.underlying120 Try.underlying3 (zeroI _) (key_at ha hb)
  rw [hrun]
  have h4 := h3 a b ha hb
  rw [of_decide_eq_true (allB_get (allB_get sgm_63 ha) hb)] at h4
  have h5 := hat.symm.trans h4
  simp only [DataW.lit.injEq, Lit.int.injEq, true_and] at h5
  rw [h5]
theorem ph_ins {m c r j : Nat} {W : World} (h : PhN m c W r) (hc : c < 100) (hm : m < 64) (hj : j < 6) (hn : has m j = false) {kv : Value} (hk : kv = kp (k1 j) (k2 j)) {ev : Value} (he : ev = .int .i64 ((k3 j : Nat) : Int)) :
    ∃ W', (Instr.mapUpdate 120 (.map (some r)) kv ev).run Try.prog W = .ok () W' ∧ PhN (m + 2 ^ j) (c + 1) W' r ∧ W.grownBy W' (some r) := by
  subst hk he
  obtain ⟨D, h1, h2, h3⟩ := h
  have k4 := of_decide_eq_true (allB_get k_4 hj)
  have hw : (Lit.int .i64 ((k3 j : Nat) : Int)).wf = true := allB_get wf_all hj
  obtain ⟨W', hrun, ho, hg⟩ := h1.update (key := kp (k1 j) (k2 j)) (val := .int .i64 ((k3 j : Nat) : Int)) klaw Try.underlying120 (by unfold maxLen; omega) (key_at k4.1 k4.2) (plainElem_int Try.underlying3 hw)
  refine ⟨W', hrun, ⟨_, ho, h2.put _ _, fun a b ha hb => ?_⟩, hg⟩
  have hik : WideAt.IsKeyLit (kl (k1 j) (k2 j)) := klaw.key (v := kp (k1 j) (k2 j)) (l := kl (k1 j) (k2 j)) (key_at k4.1 k4.2)
  have hu := allB_get (allB_get sgm_up hm) hj
  rw [hn, Bool.false_or] at hu
  have hu := of_decide_eq_true (allB_get (allB_get hu ha) hb)
  rw [hu]
  by_cases e : a = k1 j ∧ b = k2 j
  · rw [if_pos e, e.1, e.2]
    exact Go.Maps.atKey_put_same h2 hik _ _
  · rw [if_neg e, Go.Maps.atKey_put_other (kl_ne ha hb k4.1 k4.2 e)]
    exact h3 a b ha hb
theorem ph_new (w : World) : PhN 0 0 (w.alloc (.map #[] 0)) w.heap.size := by
  refine ⟨.map [], World.ownsMap_made _ _ _ _, ⟨[], rfl⟩, fun a b ha hb => ?_⟩
  have : (allB 4 fun a => allB 4 fun b => decide (sgm 0 a b = 0)) = true := by decide +kernel
  rw [of_decide_eq_true (allB_get (allB_get this ha) hb)]
  rfl
end Go.Proofs.Ytjedpeoafpljhaa.C4
