/- The law on DivRootTwo holds at every number. -/
import Derived.Test.YtdcmicianbihjaaDRootS
import Derived.Test.YtdcmicianbihjaaDRootI
import Derived.Test.YtdcmicianbihjaaLwOneB
import Derived.Test.YtdcmicianbihjaaLawA
namespace Go.Proofs.Ytdcmicianbihjaa
open Go.RowKit RM
set_option linter.unusedVariables false
set_option linter.unusedSimpArgs false
theorem tm2 (x : Int) : (x.tmod 2 == 0) = true ↔ x % 2 = 0 := by
  rw [beq_iff_eq, ← Int.dvd_iff_tmod_eq_zero]; omega
theorem rem_of {a b c d : Int} (k1 : ((a + c).tmod 2 == 0) = true) (k2 : ((b + d).tmod 2 == 0) = true) : ((b - d).tmod 2 == 0 && ((a + c).tmod 2 == 0 && ((b + d).tmod 2 == 0 && (c - a).tmod 2 == 0))) = true := by
  rw [tm2] at k1 k2
  simp only [Bool.and_eq_true]
  refine ⟨(tm2 _).2 ?_, (tm2 _).2 ?_, (tm2 _).2 ?_, (tm2 _).2 ?_⟩ <;> omega
theorem rem_no1 {a b c d : Int} (k1 : ((a + c).tmod 2 == 0) = false) : ((b - d).tmod 2 == 0 && ((a + c).tmod 2 == 0 && ((b + d).tmod 2 == 0 && (c - a).tmod 2 == 0))) = false := by
  rw [k1]; simp
theorem rem_no2 {a b c d : Int} (k2 : ((b + d).tmod 2 == 0) = false) : ((b - d).tmod 2 == 0 && ((a + c).tmod 2 == 0 && ((b + d).tmod 2 == 0 && (c - a).tmod 2 == 0))) = false := by
  rw [k2]; simp
theorem td2 (x : Int) : 2 * (x.tdiv 2).natAbs ≤ x.natAbs := by
  rw [Int.natAbs_tdiv]; show 2 * (x.natAbs / 2) ≤ _; omega
theorem half_ok {a b c d : Int} (h : vr a b c d = true) : vr ((b - d).tdiv 2) ((a + c).tdiv 2) ((b + d).tdiv 2) ((c - a).tdiv 2) = true := by
  rw [vr_iff] at *
  have h1 := td2 (b - d)
  have h2 := td2 (a + c)
  have h3 := td2 (b + d)
  have h4 := td2 (c - a)
  omega

theorem fnExactDivRootTwo_walk (a b c d : Int) (ha : I6 a) (hb : I6 b) (hc : I6 c) (hd : I6 d) (w : World) :
    Calls Try.prog 13 #[rg a b c d] w fun e w' => e = .returned (.bool true) ∧ Below w.heap.size w w' := by
  cases h : vr a b c d
  · exact lwDivRootTwo _ _ _ _ _ _ _ _ _ (fun w => droot_s_f _ _ _ _ w h) (fun w => droot_i_f _ _ _ _ w h) w
  · cases k1 : ((a + c).tmod 2 == 0)
    · exact lwDivRootTwo _ _ _ _ _ _ _ _ _ (fun w => droot_s_e1 _ _ _ _ w h k1) (fun w => droot_i_e _ _ _ _ w h (rem_no1 k1)) w
    · cases k2 : ((b + d).tmod 2 == 0)
      · exact lwDivRootTwo _ _ _ _ _ _ _ _ _ (fun w => droot_s_e2 _ _ _ _ w h k1 k2) (fun w => droot_i_e _ _ _ _ w h (rem_no2 k2)) w
      · exact lwDivRootTwo _ _ _ _ _ _ _ _ _ (fun w => droot_s_t _ _ _ _ w h k1 k2) (fun w => droot_i_t _ _ _ _ w h (rem_of k1 k2) (half_ok h)) w
end Go.Proofs.Ytdcmicianbihjaa
