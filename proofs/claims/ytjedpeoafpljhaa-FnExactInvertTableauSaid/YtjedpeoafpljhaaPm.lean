/- The products of letters are laid. -/
import Derived.Test.YtjedpeoafpljhaaPk
import Derived.Test.YtjedpeoafpljhaaRgx
import Derived.Carry
import Derived.Deep.DeepCutAuto
namespace Go.Proofs.Ytjedpeoafpljhaa.C4
open Go.RowKit
set_option linter.unusedVariables false
set_option linter.unusedSimpArgs false
attribute [local irreducible] World.setCell

/-- which operations are done: the map, the keys, and the inserts of m -/
def lsO (m : Nat) : Array Bool := #[true, true, has m 0, true, has m 1, true, has m 2, true, has m 3, true, has m 4, true, has m 5, false, false]
def cnt (m : Nat) : Nat := (List.range 6).foldr (fun j r => if has m j then r + 1 else r) 0
set_option maxRecDepth 1000000 in
theorem lsO_all : (allB 64 fun m => allB 6 fun j => has m j || decide ((lsO m).setIfInBounds (2 + 2 * j) true = lsO (m + 2 ^ j) ∧ m + 2 ^ j < 64 ∧ cnt (m + 2 ^ j) = cnt m + 1)) = true := by decide +kernel
theorem cnt_all : (allB 64 fun m => decide (cnt m = 6 → m = 63)) = true := by decide +kernel
theorem cnt_63 : cnt 63 = 6 := by decide +kernel
theorem ph_any {ops : Array Oper} {Q : Exit → Act → World → Prop} {md : Region.Mode} {L r B : Nat} {a : Act} {w0 : World}
    (hops : ∀ j, j < 6 → ∃ (o : Oper) (kx ex : Operand), ops[2 + 2 * j]? = some o ∧ o.op = Op.insert 120 (.tmp 1) kx ex ∧ a.eval kx = kp (k1 j) (k2 j) ∧ a.eval ex = .int .i64 ((k3 j : Nat) : Int) ∧ o.dst = none ∧ o.guard = none)
    (hm : a.eval (.tmp 1) = .map (some r))
    (hrdy : (allB 63 fun m => !(Region.ready md ops (lsO m)).isEmpty && (Region.ready md ops (lsO m)).all fun i => (List.range 6).any fun j => i == 2 + 2 * j && !has m j) = true)
    (hBr : B ≤ r)
    (hfin : ∀ w, PhN 63 6 w r → Below B w0 w → B ≤ w.heap.size → wpAnyX Try.prog md ops Q (fun _ => True) L 2 (lsO 63) a w) :
    ∀ (k m c : Nat) (w : World), k + c = 6 → m < 64 → cnt m = c → PhN m c w r → Below B w0 w → B ≤ w.heap.size → wpAnyX Try.prog md ops Q (fun _ => True) L (k + 2) (lsO m) a w := by
  intro k
  induction k with
  | zero =>
    intro m c w hk hm2 hc hP hb hB
    obtain rfl : c = 6 := by omega
    have : m = 63 := of_decide_eq_true (allB_get cnt_all hm2) hc
    subst this
    exact hfin w hP hb hB
  | succ k ih =>
    intro m c w hk hm2 hc hP hb hB
    have h63 : m < 63 := by
      by_cases e : m = 63
      · subst e; rw [cnt_63] at hc; omega
      · omega
    have hr := allB_get hrdy h63
    rw [Bool.and_eq_true] at hr
    refine ⟨fun h0 => (by rw [h0] at hr; exact absurd hr.1 (by decide)), fun i hi => ?_⟩
    have h1 := List.all_eq_true.1 hr.2 i hi
    obtain ⟨j, hj, h2⟩ := List.any_eq_true.1 h1
    rw [List.mem_range] at hj
    simp only [Bool.and_eq_true, beq_iff_eq, Bool.not_eq_true'] at h2
    obtain ⟨rfl, hn⟩ := h2
    obtain ⟨o, kx, ex, ho, hop, hkx, hex, hd, hg⟩ := hops j hj
    obtain ⟨W', hrun, hN, hG⟩ := ph_ins hP (by omega) hm2 hj hn hkx hex
    have hl := allB_get (allB_get lsO_all hm2) hj
    rw [hn, Bool.false_or] at hl
    obtain ⟨l1, l2, l3⟩ := of_decide_eq_true hl
    refine wpOp_step ho (fun K' hK => ?_)
    rw [if_pos (by simp [Region.wanted, hg])]
    unfold Oper.wp
    simp [execOp, hop, hm, hrun, Result.andThen]
    refine hK _ _ ⟨fun _ => trivial, ?_⟩
    rw [l1, hd]
    exact ih (m + 2 ^ j) (c + 1) W' (by omega) l2 (by rw [l3, hc]) hN (hb.grown hG hB (fun r' hr' => by cases hr'; exact hBr)) (Nat.le_trans hB hG.size)
set_option maxRecDepth 100000 in
set_option maxHeartbeats 4000000 in
theorem nlp (w : World) :
    Calls Try.prog 88 #[] w fun ee w' => ∃ r, ee = .returned (.map (some r)) ∧ PhM 63 w' r ∧ w.heap.size ≤ r ∧ Below w.heap.size w w' := by
  go_enter Try.func88, Try.ntmps88
  go_upto_region 1 with (fail)
  refine wp_region_x (fun _ => True) 1000 (by kernel_rfl) trivial (fun _ => ?_)
  refine wpAnyX_take (i := 1) (oi := _) (v := ?_) rfl (by kernel_rfl) (by kernel_rfl) (by kernel_rfl) (by kernel_rfl) (fun _ _ _ h => h) (Or.inl ⟨by rfl, ?_⟩) trivial ?_
  rotate_left 1
  · (intro w hSw; go_simp; (try with_reducible rfl))
  try simp only [Act.put, List.setIfInBounds_toArray, List.set_cons_zero, List.set_cons_succ]
  refine wpAnyX_take (i := 3) (oi := _) (v := ?_) rfl (by kernel_rfl) (by kernel_rfl) (by kernel_rfl) (by kernel_rfl) (fun _ _ _ h => h) (Or.inl ⟨by rfl, ?_⟩) trivial ?_
  rotate_left 1
  · (intro w hSw; go_simp; (try with_reducible rfl))
  try simp only [Act.put, List.setIfInBounds_toArray, List.set_cons_zero, List.set_cons_succ]
  refine wpAnyX_take (i := 5) (oi := _) (v := ?_) rfl (by kernel_rfl) (by kernel_rfl) (by kernel_rfl) (by kernel_rfl) (fun _ _ _ h => h) (Or.inl ⟨by rfl, ?_⟩) trivial ?_
  rotate_left 1
  · (intro w hSw; go_simp; (try with_reducible rfl))
  try simp only [Act.put, List.setIfInBounds_toArray, List.set_cons_zero, List.set_cons_succ]
  refine wpAnyX_take (i := 7) (oi := _) (v := ?_) rfl (by kernel_rfl) (by kernel_rfl) (by kernel_rfl) (by kernel_rfl) (fun _ _ _ h => h) (Or.inl ⟨by rfl, ?_⟩) trivial ?_
  rotate_left 1
  · (intro w hSw; go_simp; (try with_reducible rfl))
  try simp only [Act.put, List.setIfInBounds_toArray, List.set_cons_zero, List.set_cons_succ]
  refine wpAnyX_take (i := 9) (oi := _) (v := ?_) rfl (by kernel_rfl) (by kernel_rfl) (by kernel_rfl) (by kernel_rfl) (fun _ _ _ h => h) (Or.inl ⟨by rfl, ?_⟩) trivial ?_
  rotate_left 1
  · (intro w hSw; go_simp; (try with_reducible rfl))
  try simp only [Act.put, List.setIfInBounds_toArray, List.set_cons_zero, List.set_cons_succ]
  refine wpAnyX_take (i := 11) (oi := _) (v := ?_) rfl (by kernel_rfl) (by kernel_rfl) (by kernel_rfl) (by kernel_rfl) (fun _ _ _ h => h) (Or.inl ⟨by rfl, ?_⟩) trivial ?_
  rotate_left 1
  · (intro w hSw; go_simp; (try with_reducible rfl))
  try simp only [Act.put, List.setIfInBounds_toArray, List.set_cons_zero, List.set_cons_succ]
  refine wpAnyX_one (i := 0) (o := _) rfl (by kernel_rfl) (fun K hK => ?_)
  have hmm := @run_makeMap Try.prog
  go_simp
  refine hK.out _ _ (fun _ => trivial) (fun _ => ?_)
  clear hK K hmm
  try simp only [Act.put, List.setIfInBounds_toArray, List.set_cons_zero, List.set_cons_succ]
  refine ph_any (r := w.heap.size) (w0 := w) (B := w.heap.size) ?_ rfl (by decide +kernel) (Nat.le_refl _) ?_ 6 0 0 _ rfl (by decide) rfl (ph_new _) (by (repeat' (first | (with_reducible exact Below.refl _ _) | (with_reducible assumption) | (with_reducible refine Below.alloc ?_ ?_ _) | (with_reducible refine Below.drew ?_) | (with_reducible refine bdN ?_ _) | (with_reducible refine Below.setCell ?_ ?_ _) | (with_reducible refine chn ?_ (by assumption) ?_) | omega | (simp; done) | (simp; omega)))) (by simp)
  · intro j hj
    rcases (show j = 0 ∨ j = 1 ∨ j = 2 ∨ j = 3 ∨ j = 4 ∨ j = 5 by omega) with rfl | rfl | rfl | rfl | rfl | rfl <;> exact ⟨_, _, _, rfl, rfl, rfl, rfl, rfl, rfl⟩
  · intro w9 hN hb hB
    have hP := lay (hN.m (by decide))
    clear hN
    show wpAnyX _ _ _ _ _ _ _ _ _ _
    refine wpAnyX_take (i := 13) (oi := _) (v := ?_) rfl (by kernel_rfl) (by kernel_rfl) (by kernel_rfl) (by kernel_rfl) (fun _ _ _ h => h) (Or.inl ⟨by rfl, ?_⟩) trivial ?_
    rotate_left 1
    · (intro w hSw; go_simp; (try with_reducible rfl))
    change wpAnyX _ _ _ _ _ _ _ _ (Act.put _ (some 8) _) _
    try simp only [Act.put, List.setIfInBounds_toArray, List.set_cons_zero, List.set_cons_succ]
    refine wpAnyX_take (i := 14) (oi := _) (v := ?_) rfl (by kernel_rfl) (by kernel_rfl) (by kernel_rfl) (by kernel_rfl) (fun _ _ _ h => h) (Or.inl ⟨by rfl, ?_⟩) trivial ?_
    rotate_left 1
    · (intro w hSw; go_simp; (try with_reducible rfl))
    change wpAnyX _ _ _ _ _ _ _ _ (Act.put _ (some 0) _) _
    try simp only [Act.put, List.setIfInBounds_toArray, List.set_cons_zero, List.set_cons_succ]
    refine wpAnyX_done (by kernel_rfl) ?_ _
    go_wp2_with (fail)
    go_ret
    exact ⟨_, rfl, hP.out, Nat.le_refl _, hb⟩

end Go.Proofs.Ytjedpeoafpljhaa.C4
