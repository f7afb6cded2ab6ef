/- Contracts of the draws of numbers of the ring and of dyadic numbers (second part). -/
import Derived.Test.YtefmglofnoinmaaDrawB
import Derived.Test.YtefmglofnoinmaaDyB
import Derived.Test.YtefmglofnoinmaaPhase
import Derived.Deep.LoopGhost
import Derived.Test.YtefmglofnoinmaaHeldB
import Derived.Deep.RegionHeld3
import Derived.Deep.MidRow
import Derived.Deep.DeepCutAuto
import Derived.Deep.RegionWith
namespace Go.Proofs.Ytefmglofnoinmaa
open Go.RowKit RM
set_option linter.unusedVariables false
set_option linter.unusedSimpArgs false
attribute [local irreducible] World.setCell

theorem lg_any (a b c d : Int) (w : World) : Calls Try.prog 67 #[rg a b c d] w fun ee w' => ee = .returned (.bool (vr a b c d)) ∧ Below w.heap.size w w' := by
  cases h : vr a b c d
  · exact lg_f a b c d w h
  · exact lg_t a b c d w h

set_option maxRecDepth 100000 in
set_option maxHeartbeats 8000000 in
theorem anyRing_any {g len cap M : Nat} {A : Option Addr} {w : World} (h : Cu w g A len cap M) (hl : (len : Int) ≤ 9223372036854775807) (hM : M ≤ 1000000000) :
    Calls Try.prog 70 #[.pointer (some ⟨g, 0, none⟩)] w fun e w' => ∃ a b c d : Int, e = .returned (rg a b c d) ∧ Cu w' g A len cap (M + 18) ∧ Kp g w w' := by
  have HC := hid h
  have hg := h.lt
  clear h
  have HL := hid hl
  clear hl
  go_enter Try.func70, Try.ntmps70
  go_wp2_with (first | (go_at_call 72; ((with_reducible refine (one_any _ (by decide) (by decide) (hid (HC.out.alloc _)).out HL.out (by omega)).mono ?_); rintro ee w1 ⟨v1, rfl, hC1, hK1⟩; have HC1 := hid hC1; have hs1 := hK1.size; (try simp at hs1))) | (go_at_call 98; ((with_reducible refine (coef_any HC1.out HL.out (by omega)).mono ?_); rintro ee w2 ⟨v2, rfl, hC2, hK2⟩; have HC2 := hid hC2; have hs2 := hK2.size; (try simp at hs2))) | (go_at_call 98; ((with_reducible refine (coef_any HC2.out HL.out (by omega)).mono ?_); rintro ee w3 ⟨v3, rfl, hC3, hK3⟩; have HC3 := hid hC3; have hs3 := hK3.size; (try simp at hs3))) | (go_at_call 98; ((with_reducible refine (coef_any HC3.out HL.out (by omega)).mono ?_); rintro ee w4 ⟨v4, rfl, hC4, hK4⟩; have HC4 := hid hC4; have hs4 := hK4.size; (try simp at hs4))) | (go_at_call 98; ((with_reducible refine (coef_any HC4.out HL.out (by omega)).mono ?_); rintro ee w5 ⟨v5, rfl, hC5, hK5⟩; have HC5 := hid hC5; have hs5 := hK5.size; (try simp at hs5); have hZ := (((((C4.new w 25).kp hK1 (by omega)).kp hK2 (by omega)).kp hK3 (by omega)).kp hK4 (by omega)).kp hK5 (by omega); obtain ⟨z0, z1, z2, z3, z4, z5, z6, z7⟩ := hZ)) | (go_at_call 71; ((with_reducible refine (ring_any HC1.out HL.out (by omega)).mono ?_); rintro ee w6 ⟨r0, r1, r2, r3, rfl, hv6, hC6, hK6⟩; have HC6 := hid hC6; have hs6 := hK6.size; (try simp at hs6); have HV6 := hid hv6; clear hv6; have hZ := ((C4.new w 25).kp hK1 (by omega)).kp hK6 (by omega); obtain ⟨z0, z1, z2, z3, z4, z5, z6, z7⟩ := hZ)))
  · refine bodyPost_ret (v := rg v2 v3 v4 v5) (by first | (simp [results, Try.results70, go_sem, *]; done) | (simp (disch := (first | omega | (simp; done) | (simp; omega))) [results, Try.results70, go_sem, *]; done) | (simp only [results, Try.results70]; go_simp; done)) rfl ⟨_, _, _, _, rfl, ?_, ?_⟩
    · repeat' (first | (with_reducible refine Cu.set ?_ ?_) | (with_reducible refine Cu.alloc ?_ _) | (with_reducible refine Cu.drew ?_) | (exact Cu.mono (by assumption) (by omega)) | (exact Cu.below (Cu.mono (by assumption) (by omega)) (by assumption)) | omega | (simp; omega))
    · repeat' (first | (with_reducible assumption) | (with_reducible exact Kp.refl _ _) | (with_reducible refine Kp.alloc ?_ _) | (with_reducible refine Kp.drew ?_) | (with_reducible refine Kp.setNew ?_ ?_) | (with_reducible refine Kp.trans ?_ (by with_reducible assumption)) | (with_reducible refine Kp.trans ?_ (Kp.ofBelow (by with_reducible assumption))) | omega | (simp; done) | (simp; omega))
  · refine bodyPost_ret (v := rg r0 r1 r2 r3) (by first | (simp [results, Try.results70, go_sem, *]; done) | (simp (disch := (first | omega | (simp; done) | (simp; omega))) [results, Try.results70, go_sem, *]; done) | (simp only [results, Try.results70]; go_simp; done)) rfl ⟨_, _, _, _, rfl, ?_, ?_⟩
    · repeat' (first | (with_reducible refine Cu.set ?_ ?_) | (with_reducible refine Cu.alloc ?_ _) | (with_reducible refine Cu.drew ?_) | (exact Cu.mono (by assumption) (by omega)) | (exact Cu.below (Cu.mono (by assumption) (by omega)) (by assumption)) | omega | (simp; omega))
    · repeat' (first | (with_reducible assumption) | (with_reducible exact Kp.refl _ _) | (with_reducible refine Kp.alloc ?_ _) | (with_reducible refine Kp.drew ?_) | (with_reducible refine Kp.setNew ?_ ?_) | (with_reducible refine Kp.trans ?_ (by with_reducible assumption)) | (with_reducible refine Kp.trans ?_ (Kp.ofBelow (by with_reducible assumption))) | omega | (simp; done) | (simp; omega))

set_option maxRecDepth 100000 in
set_option maxHeartbeats 8000000 in
theorem dyadic_any {g len cap M : Nat} {A : Option Addr} {w : World} (h : Cu w g A len cap M) (hl : (len : Int) ≤ 9223372036854775807) (hM : M ≤ 1000000000) :
    Calls Try.prog 103 #[.pointer (some ⟨g, 0, none⟩)] w fun e w' => ∃ a b c d x : Int, e = .returned (dy a b c d x) ∧ Cu w' g A len cap (M + 10) ∧ Kp g w w' := by
  have HC := hid h
  have hg := h.lt
  clear h
  have HL := hid hl
  clear hl
  go_enter Try.func103, Try.ntmps103
  go_wp2_with (first | (go_at_call 71; ((with_reducible refine (ring_any (hid (HC.out.alloc _)).out HL.out (by omega)).mono ?_); rintro ee w1 ⟨r0, r1, r2, r3, rfl, hv1, hC1, hK1⟩; have HC1 := hid hC1; have hs1 := hK1.size; (try simp at hs1); have HV1 := hid hv1; clear hv1)) | (go_at_call 77; ((with_reducible refine (pick_any _ (by decide) (by decide) HC1.out HL.out (by omega)).mono ?_); rintro ee w2 ⟨v2, rfl, a2, b2, hC2, hK2⟩; have HC2 := hid hC2; have hs2 := hK2.size; (try simp at hs2); obtain ⟨k2, rfl⟩ := Int.eq_ofNat_of_zero_le a2; have hk2 : k2 ≤ 60 := (by omega); rcases hq : low k2 r0 r1 r2 r3 with ⟨L, M0, N, O, E⟩; have HQ := hid hq; clear hq; have HK := hid hk2)) | (go_at_call 79; ((with_reducible refine (l2low _ _ _ _ _ _ _ _ _ _ _ HV1.out HK.out HQ.out).mono ?_); rintro ee w3 ⟨rfl, hb3⟩; have hs3 := hb3.size; have hZ := (((C5.mk0 w 39).kp hK1 (by omega)).kp hK2 (by omega)).mono hb3; obtain ⟨z0, z1, z2, z3, z4, z5, z6, z7, z8, z9⟩ := hZ)))
  refine bodyPost_ret (v := dy L M0 N O E) (by first | (simp [results, Try.results103, go_sem, *]; done) | (simp (disch := (first | omega | (simp; done) | (simp; omega))) [results, Try.results103, go_sem, *]; done) | (simp only [results, Try.results103]; go_simp; done)) rfl ⟨_, _, _, _, _, rfl, ?_, ?_⟩
  · repeat' (first | (with_reducible refine Cu.set ?_ ?_) | (with_reducible refine Cu.alloc ?_ _) | (with_reducible refine Cu.drew ?_) | (exact Cu.mono (by assumption) (by omega)) | (exact Cu.below (Cu.mono (by assumption) (by omega)) (by assumption)) | omega | (simp; omega))
  · repeat' (first | (with_reducible assumption) | (with_reducible exact Kp.refl _ _) | (with_reducible refine Kp.alloc ?_ _) | (with_reducible refine Kp.drew ?_) | (with_reducible refine Kp.setNew ?_ ?_) | (with_reducible refine Kp.trans ?_ (by with_reducible assumption)) | (with_reducible refine Kp.trans ?_ (Kp.ofBelow (by with_reducible assumption))) | omega | (simp; done) | (simp; omega))
end Go.Proofs.Ytefmglofnoinmaa
