/- slices.Concat of two slices of gates. -/
import Derived.Test.YtdbnjoeanoiifaaKo3
namespace Go.Proofs.Ytdbnjoeanoiifaa
open Go.RowKit
set_option linter.unusedVariables false
set_option linter.unusedSimpArgs false
attribute [local irreducible] World.setCell

/-- the two lists one behind the other, in memory of the call's own -/
def CatR (L : List GateV) (w : World) (ee : Ending) (w' : World) : Prop := ∃ (A : Option Addr) (cp : Nat), ee = .returned (.slice A L.length cp) ∧ Ow gateE w' w.heap.size 81 A L ∧ Below w.heap.size w w'
theorem CatR.i {L : List GateV} {w w' : World} {ee : Ending} {A : Option Addr} {k cp : Nat} (hk : L.length = k) (he : ee = .returned (.slice A k cp)) (hO : Ow gateE w' w.heap.size 81 A L) (hb : Below w.heap.size w w') : CatR L w ee w' := ⟨A, cp, by rw [hk]; exact he, hO, hb⟩
set_option maxRecDepth 100000 in
set_option maxHeartbeats 4000000 in
theorem scat_z {b n m c d : Nat} {Ag Ah : Option Addr} {xs ys : List GateV} {w : World} (hc0 : w.cell? ⟨b, 0, none⟩ = some (.slice Ag n c)) (hc1 : w.cell? ⟨b, 1, none⟩ = some (.slice Ah m d)) (hA : Rd gateE w Ag xs) (hPA : Pl Ag n c) (hB : Rd gateE w Ah ys) (hPB : Pl Ah m d) (hn : xs.length = n) (hm : ys.length = m) (h0 : n + m = 0) :
    Calls Try.prog 50 #[.slice (some ⟨b, 0, none⟩) 2 2] w fun ee w' => CatR (xs ++ ys) w ee w' := by
  have HPA := lay hPA
  have HPB := lay hPB
  clear hPA hPB
  obtain ⟨i0, hi0, iz0, iz1, iz2⟩ := info_parts infoGate
  obtain rfl : n = 0 := by omega
  obtain rfl : m = 0 := by omega
  have hbw : b < w.heap.size := World.block_lt_of_cell? _ _ hc0
  have hll : (xs ++ ys).length = 0 + 0 := by rw [List.length_append, hn, hm]
  have HLL := lay hll
  have HA := lay hA
  have HB := lay hB
  have HN := lay hn
  have HM := lay hm
  have hmax2 : 0 + 0 ≤ maxLen := by unfold maxLen; omega
  have hby2 : (0 + 0) * 24 ≤ 140737488355328 := by omega
  have hmax3 : 0 + 0 ≤ maxLen := by unfold maxLen; omega
  have hby3 : (0 + 0) * 24 ≤ 140737488355328 := by omega
  clear hA hB hn hm hll
  go_enter Try.func50, Try.ntmps50
  go_wp2_with (fail)
  refine wp_loop_rounds 3 ?_
  rw [rounds_succ]
  go_wp2_with (fail)
  rw [rounds_succ]
  go_wp2_with (fail)
  rw [rounds_succ]
  go_wp2_with (fail)
  refine grow0.mono ?_
  rintro ee w1 ⟨A1, cp1, rfl, hO1, hW1⟩
  have hz1 := hW1.size
  have HO1 := lay hO1
  have hv1 : ∀ k, (Value.slice A1 0 cp1).ownBlock = some k → w.heap.size ≤ k := fun k e => (hO1.lt k e).1
  have ne1 : some b ≠ (Value.slice A1 0 cp1).ownBlock := fun e => by have := hv1 _ e.symm; omega
  have e0 : w1.cell? ⟨b, 0, none⟩ = some (.slice Ag 0 c) := (hW1.cell (p := ⟨b, 0, none⟩) hbw).trans hc0
  have e1 : w1.cell? ⟨b, 1, none⟩ = some (.slice Ah 0 d) := (hW1.cell (p := ⟨b, 1, none⟩) hbw).trans hc1
  have HV1 := lay hv1
  have NE1 := lay ne1
  clear hO1 hc0 hc1 hv1 ne1
  go_wp2_with (fail)
  refine wp_loop_rounds 3 ?_
  rw [rounds_succ]
  go_wp2_with (at_builtin; refine wpList_appO (E := gateE) rfl _ _ _ rfl w.heap.size 81 i0 _ 24 Try.underlying40 hi0 iz0 iz1 iz2 rfl _ _ 0 rfl (by rfl) HO1.out Ag 0 c xs HPA.out HN.out (by rfl) (HA.out.mono hW1) hmax2 hby2 (by omega) ?_; intro A2 cp2 w2 hO2 hG2 hat2; rw [List.nil_append] at hO2; simp only [Nat.zero_add] at hO2; have HO2 := lay hO2; have hz2 := hG2.size; have hW2 : Below w.heap.size w w2 := Below.grown hW1 hG2 (by omega) HV1.out; have f1 := hG2.cell e1 NE1.out; have hv2 : ∀ k, (Value.slice A2 0 cp2).ownBlock = some k → w.heap.size ≤ k := (fun k e => (HO2.out.lt k e).1); have HV2 := lay hv2; clear hv2 hO2 hG2 hat2 e0 e1)
  rw [rounds_succ]
  go_wp2_with (at_builtin; refine wpList_appO (E := gateE) rfl _ _ _ rfl w.heap.size 81 i0 _ 24 Try.underlying40 hi0 iz0 iz1 iz2 rfl _ _ 0 HN.out (by rfl) HO2.out Ah 0 d ys HPB.out HM.out (by rfl) (HB.out.mono hW2) hmax3 hby3 (by omega) ?_; intro A3 cp3 w3 hO3 hG3 hat3; have HO3 := lay hO3; have hz3 := hG3.size; have hW3 : Below w.heap.size w w3 := Below.grown hW2 hG3 (by omega) HV2.out; clear hO3 hG3 hat3 f1)
  rw [rounds_succ]
  go_wp2_with (fail)
  go_ret
  obtain ⟨A4, cp4, h4, hOw⟩ := HO3.out.ow
  rw [HLL.out] at h4
  cases h4
  exact CatR.i HLL.out rfl hOw hW3

set_option maxRecDepth 100000 in
set_option maxHeartbeats 4000000 in
theorem scat_p {b n m c d : Nat} {Ag Ah : Option Addr} {xs ys : List GateV} {w : World} (hc0 : w.cell? ⟨b, 0, none⟩ = some (.slice Ag n c)) (hc1 : w.cell? ⟨b, 1, none⟩ = some (.slice Ah m d)) (hA : Rd gateE w Ag xs) (hPA : Pl Ag n c) (hB : Rd gateE w Ah ys) (hPB : Pl Ah m d) (hn : xs.length = n) (hm : ys.length = m) (h0 : 0 < n + m) (hl : n + m ≤ 400) :
    Calls Try.prog 50 #[.slice (some ⟨b, 0, none⟩) 2 2] w fun ee w' => CatR (xs ++ ys) w ee w' := by
  have HPA := lay hPA
  have HPB := lay hPB
  clear hPA hPB
  obtain ⟨i0, hi0, iz0, iz1, iz2⟩ := info_parts infoGate
  have hbw : b < w.heap.size := World.block_lt_of_cell? _ _ hc0
  have hll : (xs ++ ys).length = n + m := by rw [List.length_append, hn, hm]
  have HLL := lay hll
  have HA := lay hA
  have HB := lay hB
  have HN := lay hn
  have HM := lay hm
  have hmax2 : 0 + n ≤ maxLen := by unfold maxLen; omega
  have hby2 : (0 + n) * 24 ≤ 140737488355328 := by omega
  have hmax3 : n + m ≤ maxLen := by unfold maxLen; omega
  have hby3 : (n + m) * 24 ≤ 140737488355328 := by omega
  clear hA hB hn hm hll
  go_enter Try.func50, Try.ntmps50
  go_wp2_with (fail)
  refine wp_loop_rounds 3 ?_
  rw [rounds_succ]
  go_wp2_with (fail)
  rw [rounds_succ]
  go_wp2_with (fail)
  rw [rounds_succ]
  go_wp2_with (fail)
  rw [show ((n : Int) + (m : Int)) = ((n + m : Nat) : Int) from by simp]
  refine (grow1 (n := n + m) h0 (by omega)).mono ?_
  rintro ee w1 ⟨A1, cp1, rfl, hO1, hW1⟩
  have hz1 := hW1.size
  have HO1 := lay hO1
  have hv1 : ∀ k, (Value.slice A1 0 cp1).ownBlock = some k → w.heap.size ≤ k := fun k e => (hO1.lt k e).1
  have ne1 : some b ≠ (Value.slice A1 0 cp1).ownBlock := fun e => by have := hv1 _ e.symm; omega
  have e0 : w1.cell? ⟨b, 0, none⟩ = some (.slice Ag n c) := (hW1.cell (p := ⟨b, 0, none⟩) hbw).trans hc0
  have e1 : w1.cell? ⟨b, 1, none⟩ = some (.slice Ah m d) := (hW1.cell (p := ⟨b, 1, none⟩) hbw).trans hc1
  have HV1 := lay hv1
  have NE1 := lay ne1
  clear hO1 hc0 hc1 hv1 ne1
  go_wp2_with (fail)
  refine wp_loop_rounds 3 ?_
  rw [rounds_succ]
  go_wp2_with (at_builtin; refine wpList_appO (E := gateE) rfl _ _ _ rfl w.heap.size 81 i0 _ 24 Try.underlying40 hi0 iz0 iz1 iz2 rfl _ _ 0 rfl (by rfl) HO1.out Ag n c xs HPA.out HN.out (by rfl) (HA.out.mono hW1) hmax2 hby2 (by omega) ?_; intro A2 cp2 w2 hO2 hG2 hat2; rw [List.nil_append] at hO2; simp only [Nat.zero_add] at hO2; have HO2 := lay hO2; have hz2 := hG2.size; have hW2 : Below w.heap.size w w2 := Below.grown hW1 hG2 (by omega) HV1.out; have f1 := hG2.cell e1 NE1.out; have hv2 : ∀ k, (Value.slice A2 n cp2).ownBlock = some k → w.heap.size ≤ k := (fun k e => (HO2.out.lt k e).1); have HV2 := lay hv2; clear hv2 hO2 hG2 hat2 e0 e1)
  rw [rounds_succ]
  go_wp2_with (at_builtin; refine wpList_appO (E := gateE) rfl _ _ _ rfl w.heap.size 81 i0 _ 24 Try.underlying40 hi0 iz0 iz1 iz2 rfl _ _ n HN.out (by rfl) HO2.out Ah m d ys HPB.out HM.out (by rfl) (HB.out.mono hW2) hmax3 hby3 (by omega) ?_; intro A3 cp3 w3 hO3 hG3 hat3; have HO3 := lay hO3; have hz3 := hG3.size; have hW3 : Below w.heap.size w w3 := Below.grown hW2 hG3 (by omega) HV2.out; clear hO3 hG3 hat3 f1)
  rw [rounds_succ]
  go_wp2_with (fail)
  go_ret
  obtain ⟨A4, cp4, h4, hOw⟩ := HO3.out.ow
  rw [HLL.out] at h4
  cases h4
  exact CatR.i HLL.out rfl hOw hW3

end Go.Proofs.Ytdbnjoeanoiifaa
