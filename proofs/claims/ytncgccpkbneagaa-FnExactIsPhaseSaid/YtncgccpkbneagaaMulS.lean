/- Contracts of the model of MulRing. -/
import Derived.Test.YtncgccpkbneagaaProd
namespace Go.Proofs.Ytncgccpkbneagaa
open Go.RowKit RM
set_option linter.unusedVariables false
set_option linter.unusedSimpArgs false

set_option maxRecDepth 100000 in
set_option maxHeartbeats 4000000 in
theorem lm (a b c d p q r s : Int) (w : World) (hx : vr a b c d = true) (hy : vr p q r s = true) :
    Calls Try.prog 135 #[rg a b c d, rg p q r s] w fun e w' => e = .returned (rg (m0 a b c d p q r s) (m1 a b c d p q r s) (m2 a b c d p q r s) (m3 a b c d p q r s)) ∧ Below w.heap.size w w' := by
  obtain ⟨ha, hb, hc, hd⟩ := vr_iff.1 hx
  obtain ⟨hp, hq, hr, hs⟩ := vr_iff.1 hy
  obtain ⟨ap1, ap2⟩ := mul_bd ha hp
  obtain ⟨aq1, aq2⟩ := mul_bd ha hq
  obtain ⟨ar1, ar2⟩ := mul_bd ha hr
  obtain ⟨as1, as2⟩ := mul_bd ha hs
  obtain ⟨bp1, bp2⟩ := mul_bd hb hp
  obtain ⟨bq1, bq2⟩ := mul_bd hb hq
  obtain ⟨br1, br2⟩ := mul_bd hb hr
  obtain ⟨bs1, bs2⟩ := mul_bd hb hs
  obtain ⟨cp1, cp2⟩ := mul_bd hc hp
  obtain ⟨cq1, cq2⟩ := mul_bd hc hq
  obtain ⟨cr1, cr2⟩ := mul_bd hc hr
  obtain ⟨cs1, cs2⟩ := mul_bd hc hs
  obtain ⟨dp1, dp2⟩ := mul_bd hd hp
  obtain ⟨dq1, dq2⟩ := mul_bd hd hq
  obtain ⟨dr1, dr2⟩ := mul_bd hd hr
  obtain ⟨ds1, ds2⟩ := mul_bd hd hs
  clear ha hb hc hd hp hq hr hs
  have HX := hid hx
  clear hx
  have HY := hid hy
  clear hy
  go_enter Try.func135, Try.ntmps135
  go_wp2_with (first | go_in)
  refine bodyPost_ret (v := rg (m0 a b c d p q r s) (m1 a b c d p q r s) (m2 a b c d p q r s) (m3 a b c d p q r s)) (by first | (simp [results, Try.results135, go_sem, *]; done) | (simp (disch := (first | omega | (simp; done) | (simp; omega))) [results, Try.results135, go_sem, *]; done) | (simp only [results, Try.results135]; go_simp; done)) rfl ⟨rfl, ?_⟩
  repeat' (first | (with_reducible exact Below.refl _ _) | (with_reducible refine Below.alloc ?_ ?_ _) | (with_reducible refine Below.drew ?_) | (with_reducible refine Below.setCell ?_ ?_ _) | (with_reducible refine chain ?_ (by assumption) ?_) | omega | (simp; done) | (simp; omega))
end Go.Proofs.Ytncgccpkbneagaa
