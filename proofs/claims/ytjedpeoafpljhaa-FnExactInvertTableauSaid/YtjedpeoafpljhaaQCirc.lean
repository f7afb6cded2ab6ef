/- Contracts of what the laws call on circuits. -/
import Derived.Test.YtjedpeoafpljhaaQFlatG
namespace Go.Proofs.Ytjedpeoafpljhaa.C4
open Go.RowKit
set_option linter.unusedVariables false
set_option linter.unusedSimpArgs false
attribute [local irreducible] World.setCell

abbrev circuitV (a0 : Int) (A1 : Option Addr) (n1 c1 : Nat) : Value := .agg #[.int .i64 a0, .slice (A1) n1 c1]
set_option maxRecDepth 100000 in
set_option maxHeartbeats 2000000 in
theorem szCircuit_t {a0 : Int} {A1 : Option Addr} {n1 c1 : Nat} {k : Int} {w : World} (hn : (n1 : Int) ≤ k) (hk : k ≤ 1048576) :
    Calls Try.prog 29 #[circuitV a0 A1 n1 c1, .int .i64 k] w fun ee w' => ee = .returned (.int .i64 (k - n1)) ∧ Below w.heap.size w w' := by
  have h0 : ¬ (k - (n1 : Int) < 0) := by omega
  have h1 : 0 ≤ k - (n1 : Int) := by omega
  go_enter Try.func29, Try.ntmps29
  go_wp2_with ((go_at_call 80; ((with_reducible refine (szGateS_t hn hk).mono ?_); rintro ee w1 ⟨rfl, hb1⟩)))
  go_ret
  refine ⟨rfl, ?_⟩
  (repeat' (first | (with_reducible exact Below.refl _ _) | (with_reducible assumption) | (with_reducible refine Below.alloc ?_ ?_ _) | (with_reducible refine Below.drew ?_) | (with_reducible refine bdN ?_ _) | (with_reducible refine Below.setCell ?_ ?_ _) | (with_reducible refine chn ?_ (by assumption) ?_) | omega | (simp; done) | (simp; omega)))

set_option maxRecDepth 100000 in
set_option maxHeartbeats 2000000 in
theorem szCircuit_f {a0 : Int} {A1 : Option Addr} {n1 c1 : Nat} {k : Int} {w : World} (hn : k < (n1 : Int)) (hk : k ≤ 1048576) (h0 : 0 ≤ k) (hb : n1 ≤ maxLen) :
    Calls Try.prog 29 #[circuitV a0 A1 n1 c1, .int .i64 k] w fun ee w' => ee = .returned (.int .i64 (-1)) ∧ Below w.heap.size w w' := by
  go_enter Try.func29, Try.ntmps29
  go_wp2_with ((go_at_call 80; ((with_reducible refine (szGateS_f hn hk h0 hb).mono ?_); rintro ee w1 ⟨rfl, hb1⟩)))
  go_ret
  refine ⟨rfl, ?_⟩
  (repeat' (first | (with_reducible exact Below.refl _ _) | (with_reducible assumption) | (with_reducible refine Below.alloc ?_ ?_ _) | (with_reducible refine Below.drew ?_) | (with_reducible refine bdN ?_ _) | (with_reducible refine Below.setCell ?_ ?_ _) | (with_reducible refine chn ?_ (by assumption) ?_) | omega | (simp; done) | (simp; omega)))

set_option maxRecDepth 100000 in
set_option maxHeartbeats 2000000 in
theorem toCircuit {a0 : Int} {A1 : Option Addr} {n1 c1 : Nat} {xs1 : List GateV} {w : World} (hR : Rd gateE w A1 xs1) (hn : xs1.length = n1) (hb : n1 ≤ 1048576) :
    Calls Try.prog 31 #[circuitV a0 A1 n1 c1] w fun ee w' => ∃ g1, ee = .returned (circuitV a0 (some ⟨g1, 0, none⟩) n1 n1) ∧ Bk gateE w' g1 116 xs1 ∧ w.heap.size ≤ g1 ∧ Below w.heap.size w w' := by
  have HR := lay hR
  have HN := lay hn
  clear hR hn
  go_enter Try.func31, Try.ntmps31
  go_wp2_with ((go_at_call 83; ((with_reducible refine (toGateS ?_ HN.out hb).mono ?_); (exact HR.out.mono (by (repeat' (first | (with_reducible exact Below.refl _ _) | (with_reducible assumption) | (with_reducible refine Below.alloc ?_ ?_ _) | (with_reducible refine Below.drew ?_) | (with_reducible refine bdN ?_ _) | (with_reducible refine Below.setCell ?_ ?_ _) | (with_reducible refine chn ?_ (by assumption) ?_) | omega | (simp; done) | (simp; omega))))); rintro ee w1 ⟨rfl, hB1, hb1⟩; simp only [World.size_alloc] at hB1; have HB1 := lay hB1; clear hB1; obtain ⟨hc1, hf1, _⟩ := bcl hb1; have hz1 := hb1.size; (try simp at hz1); (try have hx10 : w.heap.size < w1.heap.size := (by omega)); (try have hx11 : w.heap.size + 1 < w1.heap.size := (by omega)); (try have hx12 : w.heap.size + 1 + 1 < w1.heap.size := (by omega)); (try have hx13 : w.heap.size + 1 + 1 + 1 < w1.heap.size := (by omega)))))
  refine bodyPost_ret (v := circuitV a0 (some ⟨w.heap.size + 1 + 1 + 1, 0, none⟩) n1 n1) (by first | (simp [results, Try.results31, go_sem, *]; done) | (simp (disch := (first | omega | (simp; done) | (simp; omega))) [results, Try.results31, go_sem, *]; done) | (simp only [results, Try.results31]; go_simp; done)) rfl ⟨_, rfl, ?_, by omega, ?_⟩
  · refine HB1.out.at_ ?_
    (repeat (rw [Below.heap_setCell _ _ _ _ (by simp; try omega)]))
    try rfl
  · (repeat' (first | (with_reducible exact Below.refl _ _) | (with_reducible assumption) | (with_reducible refine Below.alloc ?_ ?_ _) | (with_reducible refine Below.drew ?_) | (with_reducible refine bdN ?_ _) | (with_reducible refine Below.setCell ?_ ?_ _) | (with_reducible refine chn ?_ (by assumption) ?_) | omega | (simp; done) | (simp; omega)))

set_option maxRecDepth 100000 in
set_option maxHeartbeats 2000000 in
theorem eqCircuit {a0 : Int} {A1 : Option Addr} {n1 c1 : Nat} {xs1 : List GateV} {B1 : Option Addr} {d1 : Nat} {w : World} (hA : Rd gateE w A1 xs1) (hB : Rd gateE w B1 xs1) (hn : xs1.length = n1) (hb : n1 ≤ 1048576) :
    Calls Try.prog 34 #[circuitV a0 A1 n1 c1, circuitV a0 B1 n1 d1] w fun ee w' => ee = .returned (.bool true) ∧ Below w.heap.size w w' := by
  have HA := lay hA
  have HB := lay hB
  have HN := lay hn
  clear hA hB hn
  go_enter Try.func34, Try.ntmps34
  go_wp2_with ((go_at_call 92; ((with_reducible refine (eqGateS ?_ ?_ HN.out hb).mono ?_); (exact HA.out.mono (by (repeat' (first | (with_reducible exact Below.refl _ _) | (with_reducible assumption) | (with_reducible refine Below.alloc ?_ ?_ _) | (with_reducible refine Below.drew ?_) | (with_reducible refine bdN ?_ _) | (with_reducible refine Below.setCell ?_ ?_ _) | (with_reducible refine chn ?_ (by assumption) ?_) | omega | (simp; done) | (simp; omega))))); (exact HB.out.mono (by (repeat' (first | (with_reducible exact Below.refl _ _) | (with_reducible assumption) | (with_reducible refine Below.alloc ?_ ?_ _) | (with_reducible refine Below.drew ?_) | (with_reducible refine bdN ?_ _) | (with_reducible refine Below.setCell ?_ ?_ _) | (with_reducible refine chn ?_ (by assumption) ?_) | omega | (simp; done) | (simp; omega))))); rintro ee w1 ⟨rfl, hb1⟩)))
  go_ret
  refine ⟨rfl, ?_⟩
  (repeat' (first | (with_reducible exact Below.refl _ _) | (with_reducible assumption) | (with_reducible refine Below.alloc ?_ ?_ _) | (with_reducible refine Below.drew ?_) | (with_reducible refine bdN ?_ _) | (with_reducible refine Below.setCell ?_ ?_ _) | (with_reducible refine chn ?_ (by assumption) ?_) | omega | (simp; done) | (simp; omega)))

set_option maxRecDepth 100000 in
set_option maxHeartbeats 2000000 in
theorem markCircuit {a0 : Int} {A1 : Option Addr} {n1 c1 : Nat} {B : Nat} {k : Int} {xs1 : List GateV} {w : World} (hO : Ow gateE w B 116 A1 xs1) (hn : xs1.length = n1) (hb : n1 ≤ 1048576) (h0 : 0 ≤ k) (h1 : k ≤ 100000000) :
    Calls Try.prog 35 #[circuitV a0 A1 n1 c1, .int .i64 k] w fun ee w' => ee = .returned (.int .i64 (k + 3 * (n1 : Int))) ∧ Ow gateE w' B 116 A1 (mks GateV.mark k n1) ∧ w.grownBy w' (blk A1) := by
  have HO := lay hO
  have HN := lay hn
  clear hO hn
  go_enter Try.func35, Try.ntmps35
  go_wp2_with ((go_at_call 93; ((with_reducible refine (markGateS (B := B) ?_ HN.out hb h0 h1).mono ?_); (exact HO.out.mono (by (repeat' (first | (with_reducible exact Below.refl _ _) | (with_reducible assumption) | (with_reducible refine Below.alloc ?_ ?_ _) | (with_reducible refine Below.drew ?_) | (with_reducible refine bdN ?_ _) | (with_reducible refine Below.setCell ?_ ?_ _) | (with_reducible refine chn ?_ (by assumption) ?_) | omega | (simp; done) | (simp; omega))))); rintro ee w1 ⟨rfl, hO1, hg1⟩; have HO1 := lay hO1; have HG1 := lay hg1; clear hO1 hg1)))
  go_ret
  exact ⟨rfl, HO1.out, grwAl HG1.out⟩

set_option maxRecDepth 100000 in
set_option maxHeartbeats 2000000 in
theorem heldCircuit {a0 : Int} {A1 : Option Addr} {n1 c1 : Nat} {k : Int} {w : World} (hA : Rd gateE w A1 (mks GateV.mark k n1)) (hb : n1 ≤ 1048576) (h0 : 0 ≤ k) (h1 : k ≤ 100000000) :
    Calls Try.prog 51 #[circuitV a0 A1 n1 c1, .int .i64 k] w fun ee w' => ee = .returned (.int .i64 (k + 3 * (n1 : Int))) ∧ Below w.heap.size w w' := by
  have HA := lay hA
  clear hA
  have b0 : ¬ (k + 3 * (n1 : Int) < 0) := by omega
  go_enter Try.func51, Try.ntmps51
  go_wp2_with ((go_at_call 111; ((with_reducible refine (heldGateS ?_ hb h0 h1).mono ?_); (exact HA.out.mono (by (repeat' (first | (with_reducible exact Below.refl _ _) | (with_reducible assumption) | (with_reducible refine Below.alloc ?_ ?_ _) | (with_reducible refine Below.drew ?_) | (with_reducible refine bdN ?_ _) | (with_reducible refine Below.setCell ?_ ?_ _) | (with_reducible refine chn ?_ (by assumption) ?_) | omega | (simp; done) | (simp; omega))))); rintro ee w1 ⟨rfl, hb1⟩)))
  go_ret
  refine ⟨rfl, ?_⟩
  (repeat' (first | (with_reducible exact Below.refl _ _) | (with_reducible assumption) | (with_reducible refine Below.alloc ?_ ?_ _) | (with_reducible refine Below.drew ?_) | (with_reducible refine bdN ?_ _) | (with_reducible refine Below.setCell ?_ ?_ _) | (with_reducible refine chn ?_ (by assumption) ?_) | omega | (simp; done) | (simp; omega)))

end Go.Proofs.Ytjedpeoafpljhaa.C4
