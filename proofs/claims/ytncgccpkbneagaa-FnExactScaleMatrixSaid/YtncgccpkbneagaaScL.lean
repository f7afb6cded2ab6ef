/- The law on ScaleMatrix. -/
import Derived.Test.YtncgccpkbneagaaLwMd
import Derived.Test.YtncgccpkbneagaaScI
namespace Go.Proofs.Ytncgccpkbneagaa
open Go.RowKit RM
set_option linter.unusedVariables false
set_option linter.unusedSimpArgs false
attribute [local irreducible] World.setCell

set_option maxRecDepth 100000 in
set_option maxHeartbeats 4000000 in
theorem bigScaleMatrix0 {r0 c0 : Int} {A0 : Option Addr} {n0 cp0 : Nat} {x1 : D5} {w : World} (hb : 1048576 < (n0 : Int)) (hm : n0 ≤ maxLen) :
    Calls Try.prog 6 #[mv r0 c0 A0 n0 cp0, x1.v] w fun ee w' => ee = .returned (.bool true) ∧ Below w.heap.size w w' := by
  have hu : n0 ≤ 9223372036854775807 := by unfold maxLen at hm; omega
  go_enter Try.func6, Try.ntmps6
  go_wp2_with (fail)
  refine (szm_f (n := n0) (by omega) (by omega) (by omega) hm).mono ?_
  rintro ee v ⟨rfl, hv⟩
  go_wp2_with (fail)
  go_ret
  refine ⟨rfl, ?_⟩
  (repeat' (first | (with_reducible exact Below.refl _ _) | (with_reducible assumption) | (with_reducible refine Below.alloc ?_ ?_ _) | (with_reducible refine Below.drew ?_) | (with_reducible refine below_drewN ?_ _) | (with_reducible refine Below.setCell ?_ ?_ _) | (with_reducible refine chain ?_ (by assumption) ?_) | omega | (simp; done) | (simp; omega)))

theorem fnExactScaleMatrix_walk {r c : Int} {A : Option Addr} {n cp : Nat} {xs : List D5} {w : World} (hA : Rd w A xs) (hn : xs.length = n) (hm : n ≤ maxLen) (x : D5) :
    Calls Try.prog 6 #[mv r c A n cp, x.v] w fun ee w' => ee = .returned (.bool true) ∧ Below w.heap.size w w' := by
  by_cases hb : n ≤ 1048576
  · cases hok : okM r c n xs
    · cases hx : x.ok
      · exact lwScaleMatrix (R := 0) (C := 0) (k := 0) (zs := []) (ok := false) (fun g w k1 => (sc_s_v k1 hn hok).mono fun ee w' h => zero_law h) (fun g w k1 => (sc_i_x k1 hn hx).mono fun ee w' h => zero_lawI h) rfl (by omega) hA hn hb
      · exact lwScaleMatrix (R := 0) (C := 0) (k := 0) (zs := []) (ok := false) (fun g w k1 => (sc_s_v k1 hn hok).mono fun ee w' h => zero_law h) (fun g w k1 => (sc_i_v k1 hn hok hx).mono fun ee w' h => zero_lawI h) rfl (by omega) hA hn hb
    · cases hx : x.ok
      · exact lwScaleMatrix (R := 0) (C := 0) (k := 0) (zs := []) (ok := false) (fun g w k1 => (sc_s_x k1 hn hok hx).mono fun ee w' h => zero_law h) (fun g w k1 => (sc_i_x k1 hn hx).mono fun ee w' h => zero_lawI h) rfl (by omega) hA hn hb
      · obtain ⟨R, C, rfl, rfl, hnn, g1, g2, g3, g4, g5⟩ := okM_nat hok
        cases hany : anyB n (scG xs x)
        · exact lwScaleMatrix (R := (R : Int)) (C := (C : Int)) (k := n) (zs := tab n (scF xs x)) (ok := true)
            (fun g w k1 => (sc_s_t k1 hn hok hx).mono fun ee w' h => MR.law (by rw [hany] at h; exact h))
            (fun g w k1 => (sc_i_t k1 hn hok hx (Nat.le_refl _) hb).mono fun ee w' h => IR.law (by rw [hany] at h; exact h))
            (tab_len _ _) hb hA hn hb
        · exact lwScaleMatrix (R := 0) (C := 0) (k := 0) (zs := []) (ok := false)
            (fun g w k1 => (sc_s_t k1 hn hok hx).mono fun ee w' h => MR.bad (by rw [hany] at h; exact h))
            (fun g w k1 => (sc_i_t k1 hn hok hx (Nat.le_refl _) hb).mono fun ee w' h => IR.bad (by rw [hany] at h; exact h))
            rfl (by omega) hA hn hb
  · exact bigScaleMatrix0 (by omega) hm

end Go.Proofs.Ytncgccpkbneagaa
