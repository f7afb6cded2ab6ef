/- How often gates are repeated: the program. -/
import Derived.Test.YtdbnjoeanoiifaaDoorFr1
import Derived.Test.YtdbnjoeanoiifaaDoorGe
import Derived.Deep.RegionHeld3
import Derived.Deep.DeepCutAuto
namespace Go.Proofs.YtdbnjoeanoiifaaDoor
open Go.RowKit
set_option linter.unusedVariables false
set_option linter.unusedSimpArgs false
attribute [local irreducible] World.setCell

theorem elG : Tryd.prog.elem 44 = 86 := by kernel_rfl
theorem unG : Tryd.prog.underlying 44 = some (.slice (Tryd.prog.elem 44)) := by rw [elG]; exact Tryd.underlying44
/-- a slice from q on -/
theorem ksl {A : Option Addr} {n c q : Nat} (h : q ≤ n) (w : World) : (Instr.slice 44 (.slice A n c) (some (.int .i64 (q : Int))) none none).run Tryd.prog w = .ok (.slice (sla A q c 3) (n - q) (c - q)) w := by
  rw [run_slice_l w _ A n c unG .i64 (q : Int) (by omega) (by omega), elG, Tryd.sizeOf86]
  rfl
/-- the first q of a slice -/
theorem ksh {A : Option Addr} {n c q : Nat} (h : q ≤ c) (w : World) : (Instr.slice 44 (.slice A n c) none (some (.int .i64 (q : Int))) none).run Tryd.prog w = .ok (.slice (sla A 0 c 3) q c) w := by
  rw [run_slice_h w _ A n c unG .i64 (q : Int) (by omega) (by omega), elG, Tryd.sizeOf86]
  rfl
theorem Rd.hd {W : World} {A : Option Addr} {xs : List GateV} {n c : Nat} (h : Rd gateE W A xs) (hn : xs.length = n) (hc : n ≤ c) (q : Nat) : Rd gateE W (sla A 0 c 3) (xs.take q) := by
  have := (Rd.slc h hn hc 0).take q
  rw [List.drop_zero] at this
  exact this
set_option maxRecDepth 100000 in
set_option maxHeartbeats 8000000 in
theorem ts_i {A : Option Addr} {n c q T : Nat} {xs : List GateV} {w : World} (hT : tm xs q = T) (hA : Rd gateE w A xs) (hn : xs.length = n) (hl : n ≤ 400) (h1 : 1 ≤ q) (h8 : q ≤ 8) (hq : q ≤ n) (hc : n ≤ c) :
    Calls Tryd.prog 79 #[.int .i64 (q : Int), .slice A n c] w fun ee w' => ee = .returned (.int .i64 (T : Int)) ∧ Below w.heap.size w w' := by
  have HA := lay hA
  have HN := lay hn
  have HT0 := lay hT
  have HS1 := lay (Rd.slc hA hn hc q)
  have k1 := fun w => ksl (A := A) (c := c) hq w
  have k2 := fun w => ksh (A := A) (n := n) (show q ≤ c by omega) w
  clear hA hn hT
  go_enter Tryd.func79, Tryd.ntmps79
  go_wp2_with (fail)
  go_loopg [5, 6] 98 (fun k s5 s6 wr => ∃ (j N C : Nat) (B : Option Addr), j + k = 99 ∧ 1 ≤ j ∧ s5 = .int .i64 (j : Int) ∧ s6 = .slice B N C ∧ Hid (j * q + N = n) ∧ N ≤ n ∧ N ≤ C ∧ Hid (Rd gateE w B (xs.drop (j * q))) ∧ Hid (tmG xs q k j = T) ∧ Below w.heap.size w wr)
  case atStart => exact ⟨1, n - q, c - q, _, by omega, by omega, rfl, rfl, lay (by omega), by omega, by omega, lay (by rw [Nat.one_mul]; exact HS1.out), HT0, by (repeat' (first | (with_reducible exact Below.refl _ _) | (with_reducible assumption) | (with_reducible refine Below.alloc ?_ ?_ _) | (with_reducible refine Below.drew ?_) | (with_reducible refine bdN ?_ _) | (with_reducible refine Below.setCell ?_ ?_ _) | (with_reducible refine chn ?_ (by assumption) ?_) | omega | (simp; done) | (simp; omega)))⟩
  case round =>
    obtain ⟨j, N, C, B, hj, hj1, rfl, rfl, HJ, hN1, hN2, HR, HG, hB⟩ := hrel
    have hBz := hB.size
    have e1 : IntKind.i64.wrap ((j : Int) + 1) = (j : Int) + 1 := IntWalk.i64_in _ (by omega)
    cases gk with
    | zero =>
      have hj9 : ¬ ((j : Int) < 99) := by omega
      obtain rfl : T = j := HG.out.symm
      have hd : decide ((T : Int) < 99) = false := decide_eq_false hj9
      go_wp2_with (fail)
      go_quiet (fail)
      all_goals (go_wp2_with (fail))
      all_goals (go_ret; refine ⟨rfl, ?_⟩; (repeat' (first | (with_reducible exact Below.refl _ _) | (with_reducible assumption) | (with_reducible refine Below.alloc ?_ ?_ _) | (with_reducible refine Below.drew ?_) | (with_reducible refine bdN ?_ _) | (with_reducible refine Below.setCell ?_ ?_ _) | (with_reducible refine chn ?_ (by assumption) ?_) | omega | (simp; done) | (simp; omega))))
    | succ m =>
      have hj9 : (j : Int) < 99 := by omega
      by_cases hNq : q ≤ N
      · have n1 : (q : Int) ≤ (N : Int) := by omega
        have k3 := fun w => ksh (A := B) (n := N) (show q ≤ C by omega) w
        have k4 := fun w => ksl (A := B) (c := C) hNq w
        have hb0 : bkq xs q 0 = xs.take q := by unfold bkq; rw [Nat.zero_mul, List.drop_zero]
        obtain ⟨t, ht⟩ : ∃ t : Bool, t = true ↔ bkq xs q j = bkq xs q 0 := boolOf
        have HTT := lay ht
        have hlen : (xs.drop (j * q)).length = N := by rw [List.length_drop, HN.out]; have := HJ.out; omega
        have HX := lay (Rd.hd HR.out hlen hN2 q)
        have HY := lay (Rd.hd HA.out HN.out hc q)
        have HE : Hid (t = true ↔ (xs.drop (j * q)).take q = xs.take q) := by show _ ↔ _; rw [← hb0]; exact HTT.out
        have L1 : Hid (((xs.drop (j * q)).take q).length = q) := by show _ = _; rw [List.length_take, hlen]; omega
        have L2 : Hid ((xs.take q).length = q) := by show _ = _; rw [List.length_take, HN.out]; omega
        have HP1 : Hid ((j + 1) * q + (N - q) = n) := by show _ = _; rw [Nat.add_mul]; have := HJ.out; omega
        have HR1 : Hid (Rd gateE w (sla B q C 3) (xs.drop ((j + 1) * q))) := by
          show Rd _ _ _ _
          have h := Rd.slc HR.out hlen hN2 q
          rw [List.drop_drop] at h
          rw [Nat.add_mul, Nat.one_mul]
          exact h
        clear ht hb0 hlen
        cases t
        · have HF : Hid (¬ bkq xs q j = bkq xs q 0) := fun h9 => by have := HTT.out.2 h9; cases this
          obtain rfl : T = j := by rw [← HG.out]; exact tmG_stop (fun k => HF.out k.2)
          go_wp2_with (fail)
          go_region_held3 (fun _ => True) (trivial) (first | (go_at_call 97; ((with_reducible refine (sleq (n1 := q) HE.out ?_ ?_ L1.out L2.out (by omega)).mono ?_); (exact HX.out.mono (by (repeat' (first | (with_reducible exact Below.refl _ _) | (with_reducible assumption) | (with_reducible refine Below.alloc ?_ ?_ _) | (with_reducible refine Below.drew ?_) | (with_reducible refine bdN ?_ _) | (with_reducible refine Below.setCell ?_ ?_ _) | (with_reducible refine chn ?_ (by assumption) ?_) | omega | (simp; done) | (simp; omega))))); (exact HY.out.mono (by (repeat' (first | (with_reducible exact Below.refl _ _) | (with_reducible assumption) | (with_reducible refine Below.alloc ?_ ?_ _) | (with_reducible refine Below.drew ?_) | (with_reducible refine bdN ?_ _) | (with_reducible refine Below.setCell ?_ ?_ _) | (with_reducible refine chn ?_ (by assumption) ?_) | omega | (simp; done) | (simp; omega))))); rintro ee v0 ⟨rfl, hv0⟩; have hq0 := hv0.size; (try simp only [World.size_drew, World.size_alloc] at hq0))))
          all_goals (have hB2 : Below w.heap.size w v0 := by (repeat' (first | (with_reducible exact Below.refl _ _) | (with_reducible assumption) | (with_reducible refine Below.alloc ?_ ?_ _) | (with_reducible refine Below.drew ?_) | (with_reducible refine bdN ?_ _) | (with_reducible refine Below.setCell ?_ ?_ _) | (with_reducible refine chn ?_ (by assumption) ?_) | omega | (simp; done) | (simp; omega))))
          all_goals (go_wp2_with (fail))
          all_goals (go_ret; exact ⟨rfl, hB2⟩)
        · have HEQ : Hid ((xs.drop (j * q)).take q = xs.take q) := HE.out.1 rfl
          have HG2 : Hid (tmG xs q m (j + 1) = T) := (tmG_go (by have := HP1.out; rw [HN.out]; omega) (HTT.out.1 rfl)).symm.trans HG.out
          go_wp2_with (fail)
          go_region_held3 (fun _ => True) (trivial) (first | (go_at_call 97; ((with_reducible refine (sleq (n1 := q) (t := true) (xs := (xs.drop (j * q)).take q) (ys := xs.take q) (Iff.intro (fun _ => HEQ.out) (fun _ => rfl)) ?_ ?_ L1.out L2.out (by omega)).mono ?_); (exact HX.out.mono (by (repeat' (first | (with_reducible exact Below.refl _ _) | (with_reducible assumption) | (with_reducible refine Below.alloc ?_ ?_ _) | (with_reducible refine Below.drew ?_) | (with_reducible refine bdN ?_ _) | (with_reducible refine Below.setCell ?_ ?_ _) | (with_reducible refine chn ?_ (by assumption) ?_) | omega | (simp; done) | (simp; omega))))); (exact HY.out.mono (by (repeat' (first | (with_reducible exact Below.refl _ _) | (with_reducible assumption) | (with_reducible refine Below.alloc ?_ ?_ _) | (with_reducible refine Below.drew ?_) | (with_reducible refine bdN ?_ _) | (with_reducible refine Below.setCell ?_ ?_ _) | (with_reducible refine chn ?_ (by assumption) ?_) | omega | (simp; done) | (simp; omega))))); rintro ee v0 ⟨rfl, hv0⟩; have hq0 := hv0.size; (try simp only [World.size_drew, World.size_alloc] at hq0))))
          all_goals (have hB2 : Below w.heap.size w v0 := by (repeat' (first | (with_reducible exact Below.refl _ _) | (with_reducible assumption) | (with_reducible refine Below.alloc ?_ ?_ _) | (with_reducible refine Below.drew ?_) | (with_reducible refine bdN ?_ _) | (with_reducible refine Below.setCell ?_ ?_ _) | (with_reducible refine chn ?_ (by assumption) ?_) | omega | (simp; done) | (simp; omega))))
          all_goals (go_wp2_with (fail))
          all_goals go_roundg m
          case measure => omega
          case rel => exact ⟨j + 1, N - q, C - q, _, by omega, by omega, by go_num, rfl, HP1, by omega, by omega, HR1, HG2, hB2⟩
      · have n1 : ¬ ((q : Int) ≤ (N : Int)) := by omega
        have hd : decide ((q : Int) ≤ (N : Int)) = false := decide_eq_false n1
        obtain rfl : T = j := by
          rw [← HG.out]
          refine tmG_stop (fun k => hNq ?_)
          have h := k.1
          rw [HN.out, Nat.add_mul] at h
          have := HJ.out
          omega
        go_wp2_with (fail)
        go_quiet (fail)
        all_goals (go_wp2_with (fail))
        all_goals (go_ret; refine ⟨rfl, ?_⟩; (repeat' (first | (with_reducible exact Below.refl _ _) | (with_reducible assumption) | (with_reducible refine Below.alloc ?_ ?_ _) | (with_reducible refine Below.drew ?_) | (with_reducible refine bdN ?_ _) | (with_reducible refine Below.setCell ?_ ?_ _) | (with_reducible refine chn ?_ (by assumption) ?_) | omega | (simp; done) | (simp; omega))))
end Go.Proofs.YtdbnjoeanoiifaaDoor
