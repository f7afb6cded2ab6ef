/- The law on AddMatrix. -/
import Derived.Test.YtncgccpkbneagaaLwM7
import Derived.Test.YtncgccpkbneagaaZar
namespace Go.Proofs.Ytncgccpkbneagaa
open Go.RowKit RM
set_option linter.unusedVariables false
set_option linter.unusedSimpArgs false
attribute [local irreducible] World.setCell

set_option maxRecDepth 100000 in
set_option maxHeartbeats 4000000 in
theorem bigAddMatrix0 {r0 c0 : Int} {A0 : Option Addr} {n0 cp0 : Nat} {r1 c1 : Int} {A1 : Option Addr} {n1 cp1 : Nat} {w : World} (hb : 1048576 < (n0 : Int)) (hm : n0 ≤ maxLen) :
    Calls Try.prog 5 #[mv r0 c0 A0 n0 cp0, mv r1 c1 A1 n1 cp1] w fun ee w' => ee = .returned (.bool true) ∧ Below w.heap.size w w' := by
  have hu : n0 ≤ 9223372036854775807 := by unfold maxLen at hm; omega
  go_enter Try.func5, Try.ntmps5
  go_wp2_with (fail)
  refine (szm_f (n := n0) (by omega) (by omega) (by omega) hm).mono ?_
  rintro ee v ⟨rfl, hv⟩
  go_wp2_with (fail)
  go_ret
  refine ⟨rfl, ?_⟩
  (repeat' (first | (with_reducible exact Below.refl _ _) | (with_reducible assumption) | (with_reducible refine Below.alloc ?_ ?_ _) | (with_reducible refine Below.drew ?_) | (with_reducible refine below_drewN ?_ _) | (with_reducible refine Below.setCell ?_ ?_ _) | (with_reducible refine chain ?_ (by assumption) ?_) | omega | (simp; done) | (simp; omega)))

set_option maxRecDepth 100000 in
set_option maxHeartbeats 4000000 in
theorem bigAddMatrix1 {r0 c0 : Int} {A0 : Option Addr} {n0 cp0 : Nat} {r1 c1 : Int} {A1 : Option Addr} {n1 cp1 : Nat} {w : World} (h0 : n0 ≤ 1048576) (h9 : 0 ≤ 1048576 - (n0 : Int)) (hb : 1048576 - (n0 : Int) < (n1 : Int)) (hm : n1 ≤ maxLen) :
    Calls Try.prog 5 #[mv r0 c0 A0 n0 cp0, mv r1 c1 A1 n1 cp1] w fun ee w' => ee = .returned (.bool true) ∧ Below w.heap.size w w' := by
  have hu : n1 ≤ 9223372036854775807 := by unfold maxLen at hm; omega
  go_enter Try.func5, Try.ntmps5
  go_wp2_with (fail)
  refine (szm_t (n := n0) (by omega) (by omega)).mono ?_
  rintro ee w1 ⟨rfl, hb1⟩
  obtain ⟨hc1, hf1, _⟩ := bcell hb1
  have hz1 := hb1.size
  (try simp at hz1)
  (try have hx10 : w.heap.size < w1.heap.size := (by omega))
  (try have hx11 : w.heap.size + 1 < w1.heap.size := (by omega))
  go_wp2_with (fail)
  refine (szm_f (n := n1) (by omega) (by omega) (by omega) hm).mono ?_
  rintro ee v ⟨rfl, hv⟩
  go_wp2_with (fail)
  go_ret
  refine ⟨rfl, ?_⟩
  (repeat' (first | (with_reducible exact Below.refl _ _) | (with_reducible assumption) | (with_reducible refine Below.alloc ?_ ?_ _) | (with_reducible refine Below.drew ?_) | (with_reducible refine below_drewN ?_ _) | (with_reducible refine Below.setCell ?_ ?_ _) | (with_reducible refine chain ?_ (by assumption) ?_) | omega | (simp; done) | (simp; omega)))

theorem fnExactAddMatrix_walk {r c r' c' : Int} {A B : Option Addr} {n m cp cp' : Nat} {xs ys : List D5} {w : World} (hA : Rd w A xs) (hn : xs.length = n) (hm : n ≤ maxLen) (hB : Rd w B ys) (hn2 : ys.length = m) (hm2 : m ≤ maxLen) :
    Calls Try.prog 5 #[mv r c A n cp, mv r' c' B m cp'] w fun ee w' => ee = .returned (.bool true) ∧ Below w.heap.size w w' := by
  by_cases hb : n ≤ 1048576
  · by_cases hb2 : n + m ≤ 1048576
    · cases hok : okM r c n xs
      · exact lwAddMatrix (R := 0) (C := 0) (k := 0) (zs := []) (ok := false) (fun g h w k1 k2 => (mad_s_v1 k1 k2 hn hn2 hok).mono fun ee w' h => zero_law h) (fun g h w k1 k2 => (mad_i_v1 k1 k2 hn hn2 hok).mono fun ee w' h => zero_lawI h) rfl (by omega) hA hB hn hn2 hb2
      cases hok2 : okM r' c' m ys
      · exact lwAddMatrix (R := 0) (C := 0) (k := 0) (zs := []) (ok := false) (fun g h w k1 k2 => (mad_s_v2 k1 k2 hn hn2 hok hok2).mono fun ee w' h => zero_law h) (fun g h w k1 k2 => (mad_i_v2 k1 k2 hn hn2 hok hok2).mono fun ee w' h => zero_lawI h) rfl (by omega) hA hB hn hn2 hb2
      by_cases hr : r = r'
      · by_cases hc : c = c'
        · subst hr hc
          obtain ⟨R, C, rfl, rfl, hnn, g1, g2, g3, g4, g5⟩ := okM_nat hok
          have hmm : m = R * C := (okM_nat2 hok2).1
          obtain rfl : m = n := by rw [hmm, hnn]
          cases hany : anyB m (addG xs ys)
          · exact lwAddMatrix (R := (R : Int)) (C := (C : Int)) (k := m) (zs := tab m (addF xs ys)) (ok := true)
              (fun g h w k1 k2 => (mad_s_t k1 k2 hn hn2 hok hok2).mono fun ee w' h => MR.law (by rw [hany] at h; exact h))
              (fun g h w k1 k2 => (mad_i_t k1 k2 hn hn2 hok hok2 (Nat.le_refl _) hb (Nat.le_refl _) hb).mono fun ee w' h => IR.law (by rw [hany] at h; exact h))
              (tab_len _ _) hb hA hB hn hn2 hb2
          · exact lwAddMatrix (R := 0) (C := 0) (k := 0) (zs := []) (ok := false)
              (fun g h w k1 k2 => (mad_s_t k1 k2 hn hn2 hok hok2).mono fun ee w' h => MR.bad (by rw [hany] at h; exact h))
              (fun g h w k1 k2 => (mad_i_t k1 k2 hn hn2 hok hok2 (Nat.le_refl _) hb (Nat.le_refl _) hb).mono fun ee w' h => IR.bad (by rw [hany] at h; exact h))
              rfl (by omega) hA hB hn hn2 hb2
        · exact lwAddMatrix (R := 0) (C := 0) (k := 0) (zs := []) (ok := false) (fun g h w k1 k2 => (mad_s_c k1 k2 hn hn2 hok hok2 hr hc).mono fun ee w' h => zero_law h) (fun g h w k1 k2 => (mad_i_c k1 k2 hn hn2 hok hok2 hr hc).mono fun ee w' h => zero_lawI h) rfl (by omega) hA hB hn hn2 hb2
      · exact lwAddMatrix (R := 0) (C := 0) (k := 0) (zs := []) (ok := false) (fun g h w k1 k2 => (mad_s_r k1 k2 hn hn2 hok hok2 hr).mono fun ee w' h => zero_law h) (fun g h w k1 k2 => (mad_i_r k1 k2 hn hn2 hok hok2 hr).mono fun ee w' h => zero_lawI h) rfl (by omega) hA hB hn hn2 hb2
    · exact bigAddMatrix1 hb (by omega) (by omega) hm2
  · exact bigAddMatrix0 (by omega) hm

end Go.Proofs.Ytncgccpkbneagaa
