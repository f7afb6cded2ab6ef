/- The test for Clifford circuits. -/
import Derived.Test.YtfbffncbdddemaaGc
import Derived.Deep.RegionHeld3
namespace Go.Proofs.Ytfbffncbdddemaa
open Go.RowKit
set_option linter.unusedVariables false
set_option linter.unusedSimpArgs false
attribute [local irreducible] World.setCell

set_option maxRecDepth 100000 in
set_option maxHeartbeats 2000000 in
theorem iIsClifford_f {a0 : Int} {A1 : Option Addr} {n1 c1 : Nat} {xs : List GateV} {w : World} (hA : Rd gateE w A1 xs) (hn : xs.length = n1) (hm : n1 ≤ maxLen) (hok : okC a0 n1 xs = false) :
    Calls Try.prog 69 #[circuitV a0 A1 n1 c1] w fun ee w' => ee = .returned (.tuple #[.bool false, .bool false]) ∧ Below w.heap.size w w' := by
  have HA := lay hA
  have HN := lay hn
  have HO := lay hok
  clear hA hn hok
  go_enter Try.func69, Try.ntmps69
  go_wp2_with (fail)
  refine (cgC_f (xs := xs) ?_ HN.out hm HO.out).mono ?_
  · exact HA.out.mono (by (repeat' (first | (with_reducible exact Below.refl _ _) | (with_reducible assumption) | (with_reducible refine Below.alloc ?_ ?_ _) | (with_reducible refine Below.drew ?_) | (with_reducible refine bdN ?_ _) | (with_reducible refine Below.setCell ?_ ?_ _) | (with_reducible refine chn ?_ (by assumption) ?_) | omega | (simp; done) | (simp; omega))))
  rintro ee w1 ⟨rfl, hb1⟩
  obtain ⟨hc1, hf1, _⟩ := bcl hb1; have hz1 := hb1.size; (try simp at hz1); (try have hx10 : w.heap.size < w1.heap.size := (by omega)); (try have hx11 : w.heap.size + 1 < w1.heap.size := (by omega)); (try have hx12 : w.heap.size + 1 + 1 < w1.heap.size := (by omega)); (try have hx13 : w.heap.size + 1 + 1 + 1 < w1.heap.size := (by omega))
  go_wp2_with (fail)
  go_ret2
  refine ⟨rfl, ?_⟩
  (repeat' (first | (with_reducible exact Below.refl _ _) | (with_reducible assumption) | (with_reducible refine Below.alloc ?_ ?_ _) | (with_reducible refine Below.drew ?_) | (with_reducible refine bdN ?_ _) | (with_reducible refine Below.setCell ?_ ?_ _) | (with_reducible refine chn ?_ (by assumption) ?_) | omega | (simp; done) | (simp; omega)))

set_option maxRecDepth 100000 in
set_option maxHeartbeats 2000000 in
theorem iIsClifford_t {a0 : Int} {A1 : Option Addr} {n1 c1 : Nat} {xs : List GateV} {w : World} (hA : Rd gateE w A1 xs) (hn : xs.length = n1) (hm : n1 ≤ maxLen) {t : Bool} (hok : okC a0 n1 xs = true) (ht : (xs.countP isCl == xs.length) = t) :
    Calls Try.prog 69 #[circuitV a0 A1 n1 c1] w fun ee w' => ee = .returned (.tuple #[.bool t, .bool true]) ∧ Below w.heap.size w w' := by
  have HT : Hid ((((xs.countP isCl : Nat) : Int) == (n1 : Int)) = t) := by
    show _ = t
    rw [← ht, hn, Bool.eq_iff_iff, beq_iff_eq, beq_iff_eq]; omega
  obtain ⟨K, hK⟩ : ∃ K, K = xs.countP isCl := ⟨_, rfl⟩
  rw [← hK] at HT
  have HK := lay hK
  clear ht hK
  have HA := lay hA
  have HN := lay hn
  have HO := lay hok
  clear hA hn hok
  go_enter Try.func69, Try.ntmps69
  go_wp2_with (fail)
  refine (cgC_t (xs := xs) ?_ HN.out hm HO.out).mono ?_
  · exact HA.out.mono (by (repeat' (first | (with_reducible exact Below.refl _ _) | (with_reducible assumption) | (with_reducible refine Below.alloc ?_ ?_ _) | (with_reducible refine Below.drew ?_) | (with_reducible refine bdN ?_ _) | (with_reducible refine Below.setCell ?_ ?_ _) | (with_reducible refine chn ?_ (by assumption) ?_) | omega | (simp; done) | (simp; omega))))
  rintro ee w1 ⟨rfl, hb1⟩
  rw [← HK.out]
  obtain ⟨hc1, hf1, _⟩ := bcl hb1; have hz1 := hb1.size; (try simp at hz1); (try have hx10 : w.heap.size < w1.heap.size := (by omega)); (try have hx11 : w.heap.size + 1 < w1.heap.size := (by omega)); (try have hx12 : w.heap.size + 1 + 1 < w1.heap.size := (by omega)); (try have hx13 : w.heap.size + 1 + 1 + 1 < w1.heap.size := (by omega))
  go_wp2_with (fail)
  go_ret2
  refine ⟨by rw [← HT.out]; rfl, ?_⟩
  (repeat' (first | (with_reducible exact Below.refl _ _) | (with_reducible assumption) | (with_reducible refine Below.alloc ?_ ?_ _) | (with_reducible refine Below.drew ?_) | (with_reducible refine bdN ?_ _) | (with_reducible refine Below.setCell ?_ ?_ _) | (with_reducible refine chn ?_ (by assumption) ?_) | omega | (simp; done) | (simp; omega)))

set_option maxRecDepth 100000 in
set_option maxHeartbeats 2000000 in
theorem sIsClifford_f {a0 : Int} {A1 : Option Addr} {n1 c1 : Nat} {xs : List GateV} {w : World} (hA : Rd gateE w A1 xs) (hn : xs.length = n1) (hm : n1 ≤ maxLen) (hok : okC a0 n1 xs = false) :
    Calls Try.prog 68 #[circuitV a0 A1 n1 c1] w fun ee w' => ee = .returned (.tuple #[.bool false, .bool false]) ∧ Below w.heap.size w w' := by
  have HA := lay hA
  have HN := lay hn
  have HO := lay hok
  clear hA hn hok
  go_enter Try.func68, Try.ntmps68
  go_wp2_with (fail)
  refine (vcs (xs := xs) HO.out ?_ HN.out hm).mono ?_
  · exact HA.out.mono (by (repeat' (first | (with_reducible exact Below.refl _ _) | (with_reducible assumption) | (with_reducible refine Below.alloc ?_ ?_ _) | (with_reducible refine Below.drew ?_) | (with_reducible refine bdN ?_ _) | (with_reducible refine Below.setCell ?_ ?_ _) | (with_reducible refine chn ?_ (by assumption) ?_) | omega | (simp; done) | (simp; omega))))
  rintro ee w1 ⟨rfl, hb1⟩
  go_wp2_with (fail)
  go_ret2
  refine ⟨rfl, ?_⟩
  (repeat' (first | (with_reducible exact Below.refl _ _) | (with_reducible assumption) | (with_reducible refine Below.alloc ?_ ?_ _) | (with_reducible refine Below.drew ?_) | (with_reducible refine bdN ?_ _) | (with_reducible refine Below.setCell ?_ ?_ _) | (with_reducible refine chn ?_ (by assumption) ?_) | omega | (simp; done) | (simp; omega)))

set_option maxRecDepth 100000 in
set_option maxHeartbeats 4000000 in
theorem sIsClifford_t {a0 : Int} {A1 : Option Addr} {n1 c1 : Nat} {xs : List GateV} {w : World} (hA : Rd gateE w A1 xs) (hn : xs.length = n1) (hm : n1 ≤ maxLen) {t : Bool} (hok : okC a0 n1 xs = true) (ht : (xs.countP isT + xs.countP isW == 0) = t) (hl : n1 ≤ 400) :
    Calls Try.prog 68 #[circuitV a0 A1 n1 c1] w fun ee w' => ee = .returned (.tuple #[.bool t, .bool true]) ∧ Below w.heap.size w w' := by
  have hT : xs.countP (pK 7 8) = xs.countP isT := rfl
  have hW2 : xs.countP (pK 12 12) = xs.countP isW := rfl
  have hl1 : xs.countP isT ≤ 400 := Nat.le_trans List.countP_le_length (by omega)
  have hl2 : xs.countP isW ≤ 400 := Nat.le_trans List.countP_le_length (by omega)
  obtain ⟨K, hK⟩ : ∃ K, K = xs.countP isT := ⟨_, rfl⟩
  obtain ⟨M, hM⟩ : ∃ M, M = xs.countP isW := ⟨_, rfl⟩
  rw [← hK] at ht hT hl1
  rw [← hM] at ht hW2 hl2
  have HT : Hid ((IntKind.i64.wrap ((K : Int) + (M : Int)) == 0) = t) := by
    show _ = t
    rw [IntWalk.i64_in _ (by omega), ← ht, Bool.eq_iff_iff, beq_iff_eq, beq_iff_eq]; omega
  have H7 := lay hT
  have H12 := lay hW2
  clear ht hK hM hT hW2
  have HA := lay hA
  have HN := lay hn
  have HO := lay hok
  clear hA hn hok
  go_enter Try.func68, Try.ntmps68
  go_wp2_with (fail)
  refine (vcs (xs := xs) HO.out ?_ HN.out hm).mono ?_
  · exact HA.out.mono (by (repeat' (first | (with_reducible exact Below.refl _ _) | (with_reducible assumption) | (with_reducible refine Below.alloc ?_ ?_ _) | (with_reducible refine Below.drew ?_) | (with_reducible refine bdN ?_ _) | (with_reducible refine Below.setCell ?_ ?_ _) | (with_reducible refine chn ?_ (by assumption) ?_) | omega | (simp; done) | (simp; omega))))
  rintro ee w1 ⟨rfl, hb1⟩
  have hz1 := hb1.size
  simp only [World.size_alloc] at hz1
  have k1_0_0 : w1.cell? ⟨w.heap.size, 0, none⟩ = some (.int .i64 a0) := (hb1.cell (p := ⟨w.heap.size, 0, none⟩) (by show w.heap.size < _; (try simp only [World.size_alloc]); omega)).trans (by first | rfl | (simp; done) | (simp [*]; done))
  have k1_0_1 : w1.cell? ⟨w.heap.size, 1, none⟩ = some (.slice A1 n1 c1) := (hb1.cell (p := ⟨w.heap.size, 1, none⟩) (by show w.heap.size < _; (try simp only [World.size_alloc]); omega)).trans (by first | rfl | (simp; done) | (simp [*]; done))
  have b1_0 : w.heap.size < w1.heap.size := World.block_lt_of_cell? _ _ k1_0_0
  have hW : Below w.heap.size w w1 := by (repeat' (first | (with_reducible exact Below.refl _ _) | (with_reducible assumption) | (with_reducible refine Below.alloc ?_ ?_ _) | (with_reducible refine Below.drew ?_) | (with_reducible refine bdN ?_ _) | (with_reducible refine Below.setCell ?_ ?_ _) | (with_reducible refine chn ?_ (by assumption) ?_) | omega | (simp; done) | (simp; omega)))
  clear hb1
  have hz2 := hW.size
  go_wp2_with (fail)
  have yk0 : w1.drew.cell? ⟨w.heap.size, 0, none⟩ = some (.int .i64 a0) := k1_0_0
  have yk1 : w1.drew.cell? ⟨w.heap.size, 1, none⟩ = some (.slice A1 n1 c1) := k1_0_1
  go_region_held3 (fun w' => w'.cell? ⟨w.heap.size, 0, none⟩ = some (.int .i64 a0) ∧ w'.cell? ⟨w.heap.size, 1, none⟩ = some (.slice A1 n1 c1)) (first | (with_reducible exact ⟨yk0, yk1⟩) | (with_reducible exact ⟨k1_0_0, k1_0_1⟩) | (go_split_ands; with_reducible exact ⟨kcl hv0 (by with_reducible assumption), kcl hv0 (by with_reducible assumption)⟩) | (go_split_ands; with_reducible exact ⟨kcl hv1 (by with_reducible assumption), kcl hv1 (by with_reducible assumption)⟩)) (first | (go_at_call_of 129 (Value.int IntKind.i64 7); ((refine (lcnt (xs := xs) (lo := 7) ?_ HN.out hm).mono ?_); (exact HA.out.mono (by (repeat' (first | (with_reducible exact Below.refl _ _) | (with_reducible assumption) | (with_reducible refine Below.alloc ?_ ?_ _) | (with_reducible refine Below.drew ?_) | (with_reducible refine bdN ?_ _) | (with_reducible refine Below.setCell ?_ ?_ _) | (with_reducible refine chn ?_ (by assumption) ?_) | omega | (simp; done) | (simp; omega))))); rintro ee v0 ⟨rfl, hv0⟩; rw [H7.out]; have hq0 := hv0.size; (try simp only [World.size_drew, World.size_alloc] at hq0))) | (go_at_call_of 129 (Value.int IntKind.i64 12); ((refine (lcnt (xs := xs) (lo := 12) ?_ HN.out hm).mono ?_); (exact HA.out.mono (by (repeat' (first | (with_reducible exact Below.refl _ _) | (with_reducible assumption) | (with_reducible refine Below.alloc ?_ ?_ _) | (with_reducible refine Below.drew ?_) | (with_reducible refine bdN ?_ _) | (with_reducible refine Below.setCell ?_ ?_ _) | (with_reducible refine chn ?_ (by assumption) ?_) | omega | (simp; done) | (simp; omega))))); rintro ee v1 ⟨rfl, hv1⟩; rw [H12.out]; have hq1 := hv1.size; (try simp only [World.size_drew, World.size_alloc] at hq1))))
  all_goals (go_wp2_with (fail); go_ret2; refine ⟨by rw [← HT.out]; rfl, ?_⟩)
  all_goals (repeat' (first | (with_reducible exact Below.refl _ _) | (with_reducible assumption) | (with_reducible refine Below.alloc ?_ ?_ _) | (with_reducible refine Below.drew ?_) | (with_reducible refine bdN ?_ _) | (with_reducible refine Below.setCell ?_ ?_ _) | (with_reducible refine chn ?_ (by assumption) ?_) | omega | (simp; done) | (simp; omega)))

end Go.Proofs.Ytfbffncbdddemaa
