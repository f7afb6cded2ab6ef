/- Contracts of the draws of any dyadic number. -/
import Derived.Test.YtefmglofnoinmaaDrawC
import Derived.Deep.LoopGhost
import Derived.Test.YtefmglofnoinmaaHeldB
import Derived.Deep.RegionHeld3
import Derived.Deep.MidRow
import Derived.Deep.DeepCutAuto
import Derived.Deep.RegionWith
namespace Go.Proofs.Ytefmglofnoinmaa
open Go.RowKit RM
set_option linter.unusedVariables false
set_option linter.unusedSimpArgs false
attribute [local irreducible] World.setCell

theorem list4 {W : World} {t : TypeId} {i : Nat} {v : Int} (hi : i < 4) (h : (W.alloc (.cells #[.int .i64 0, .int .i64 3, .int .i64 59, .int .i64 60] t)).cell? ⟨W.heap.size, 0 + i, none⟩ = some (.int .i64 v)) : ∃ k : Nat, k ≤ 60 ∧ v = (k : Int) := by
  rw [World.cell?_alloc_at _ _ _ _ rfl] at h
  rcases (show i = 0 ∨ i = 1 ∨ i = 2 ∨ i = 3 by omega) with rfl | rfl | rfl | rfl
  · simp at h; exact ⟨0, by omega, by omega⟩
  · simp at h; exact ⟨3, by omega, by omega⟩
  · simp at h; exact ⟨59, by omega, by omega⟩
  · simp at h; exact ⟨60, by omega, by omega⟩

theorem C4.of (W : World) (a b c d : Int) (t : TypeId) : C4 (W.alloc (.cells #[.int .i64 a, .int .i64 b, .int .i64 c, .int .i64 d] t)) W.heap.size a b c d := ⟨by go_simp, by go_simp, by go_simp, by go_simp, by go_simp, by go_simp, by go_simp, by go_simp⟩

set_option maxRecDepth 100000 in
set_option maxHeartbeats 8000000 in
theorem anyDyadic_any {g len cap M : Nat} {A : Option Addr} {w : World} (h : Cu w g A len cap M) (hl : (len : Int) ≤ 9223372036854775807) (hM : M ≤ 500000000) :
    Calls Try.prog 81 #[.pointer (some ⟨g, 0, none⟩)] w fun e w' => ∃ a b c d x : Int, e = .returned (dy a b c d x) ∧ Cu w' g A len cap (M + 30) ∧ Kp g w w' := by
  have HC := hid h
  have hg := h.lt
  clear h
  have HL := hid hl
  clear hl
  go_enter Try.func81, Try.ntmps81
  go_wp2_with (first | (go_at_call 77; ((with_reducible refine (pick_any _ (by decide) (by decide) (hid (HC.out.alloc _)).out HL.out (by omega)).mono ?_); rintro ee w1 ⟨v1, rfl, a1, b1, hC1, hK1⟩; have HC1 := hid hC1; have hs1 := hK1.size; (try simp at hs1))) | (go_at_call 71; ((with_reducible refine (ring_any HC1.out HL.out (by omega)).mono ?_); rintro ee w2 ⟨r0, r1, r2, r3, rfl, hv2, hC2, hK2⟩; have HC2 := hid hC2; have hs2 := hK2.size; (try simp at hs2))) | (go_at_call 76; ((with_reducible refine (among_any w2.heap.size 0 5 5 (by decide) (by decide) (HC2.out.alloc _) HL.out (by omega) ?hb ?hz).mono ?_); (case hb => have := HC2.out.lt; omega); (case hz => intro i hi; rcases (show i = 0 ∨ i = 1 ∨ i = 2 ∨ i = 3 ∨ i = 4 by omega) with rfl | rfl | rfl | rfl | rfl <;> first | exact ⟨_, (World.cell?_alloc_at _ _ _ _ rfl).trans rfl⟩ | omega); (rintro ee w3 ⟨v3, rfl, ⟨i3, hi3, hl3⟩, hC3, hK3⟩; have HC3 := hid hC3; have hs3 := hK3.size; (try simp at hs3); have hZ := ((((C5.mk0 w 39).kp hK1 (by omega)).kp hK2 (by omega)).al).kp hK3 (by omega); obtain ⟨z0, z1, z2, z3, z4, z5, z6, z7, z8, z9⟩ := hZ))) | (go_at_call 70; ((with_reducible refine (anyRing_any HC1.out HL.out (by omega)).mono ?_); rintro ee w4 ⟨r0, r1, r2, r3, rfl, hC4, hK4⟩; have HC4 := hid hC4; have hs4 := hK4.size; (try simp at hs4); have hZ4 := ((C5.mk0 w 39).kp hK1 (by omega)).kp hK4 (by omega))) | (go_at_call 67; ((with_reducible refine (lg_any _ _ _ _ _).mono ?_); rintro ee w5 ⟨rfl, hb5⟩; have hs5 := hb5.size; (try simp at hs5); have hx45 : w4.heap.size < w5.heap.size := (by omega); have HC5 := hid ((HC4.out.alloc _).below hb5); have hZ5 := (hZ4.al).mono hb5; have hX5 := (C4.of w4 r0 r1 r2 r3 25).mono hb5; obtain ⟨x0, x1, x2, x3, x4, x5, x6, x7⟩ := id hX5)) | (go_at_call 103; ((with_reducible refine (dyadic_any HC5.out HL.out (by omega)).mono ?_); rintro ee w6 ⟨d0, d1, d2, d3, d4, rfl, hC6, hK6⟩; have HC6 := hid hC6; have hs6 := hK6.size; (try simp at hs6); have hZ := hZ5.kp hK6 (by omega); obtain ⟨z0, z1, z2, z3, z4, z5, z6, z7, z8, z9⟩ := hZ)) | (go_at_call 103; ((with_reducible refine (dyadic_any HC1.out HL.out (by omega)).mono ?_); rintro ee w6 ⟨d0, d1, d2, d3, d4, rfl, hC6, hK6⟩; have HC6 := hid hC6; have hs6 := hK6.size; (try simp at hs6); have hZ := ((C5.mk0 w 39).kp hK1 (by omega)).kp hK6 (by omega); obtain ⟨z0, z1, z2, z3, z4, z5, z6, z7, z8, z9⟩ := hZ)) | (go_at_call 77; ((with_reducible refine (pick_any _ (by decide) (by decide) HC1.out HL.out (by omega)).mono ?_); rintro ee w7 ⟨v7, rfl, a7, b7, hC7, hK7⟩; have HC7 := hid hC7; have hs7 := hK7.size; (try simp at hs7); obtain ⟨k7, rfl⟩ := Int.eq_ofNat_of_zero_le a7; have HK7 := hid (show k7 < 8 by omega))) | (go_at_call 92; ((with_reducible refine (l2pw _ _ HK7.out).mono ?_); rintro ee w8 ⟨rfl, hb8⟩; have hs8 := hb8.size; have hZ := (((C5.mk0 w 39).kp hK1 (by omega)).kp hK7 (by omega)).mono hb8; obtain ⟨z0, z1, z2, z3, z4, z5, z6, z7, z8, z9⟩ := hZ)))
  · refine bodyPost_ret (v := dy r0 r1 r2 r3 v3) (by first | (simp [results, Try.results81, go_sem, *]; done) | (simp (disch := (first | omega | (simp; done) | (simp; omega))) [results, Try.results81, go_sem, *]; done) | (simp only [results, Try.results81]; go_simp; done)) rfl ⟨_, _, _, _, _, rfl, ?_, ?_⟩
    · repeat' (first | (with_reducible refine Cu.set ?_ ?_) | (with_reducible refine Cu.alloc ?_ _) | (with_reducible refine Cu.drew ?_) | (exact Cu.mono (by assumption) (by omega)) | (exact Cu.below (Cu.mono (by assumption) (by omega)) (by assumption)) | omega | (simp; omega))
    · repeat' (first | (with_reducible assumption) | (with_reducible exact Kp.refl _ _) | (with_reducible refine Kp.alloc ?_ _) | (with_reducible refine Kp.drew ?_) | (with_reducible refine Kp.setNew ?_ ?_) | (with_reducible refine Kp.trans ?_ (by with_reducible assumption)) | (with_reducible refine Kp.trans ?_ (Kp.ofBelow (by with_reducible assumption))) | omega | (simp; done) | (simp; omega))
  · have HV := hid (by assumption : vr r0 r1 r2 r3 = true)
    go_region_with (first
      | (go_at_call 76; ((with_reducible refine (among_any w5.heap.size 0 4 4 (by decide) (by decide) (HC5.out.alloc _).drew HL.out (by omega) ?hb ?hz).mono ?_); (case hb => have := HC5.out.lt; omega); (case hz => intro i hi; rcases (show i = 0 ∨ i = 1 ∨ i = 2 ∨ i = 3 ∨ i = 4 by omega) with rfl | rfl | rfl | rfl | rfl <;> first | exact ⟨_, (World.cell?_alloc_at _ _ _ _ rfl).trans rfl⟩ | omega); (rintro ee w9 ⟨v9, rfl, ⟨i9, hi9, hl9⟩, hC9, hK9⟩; have HC9 := hid hC9; have hs9 := hK9.size; (try simp at hs9); obtain ⟨k9, hk9, rfl⟩ := list4 hi9 hl9; have HK9 := hid hk9; rcases hq : low k9 r0 r1 r2 r3 with ⟨L, M0, N, O, E⟩; have HQ := hid hq; clear hq; have hX9 := (hX5.mono ((Below.refl _ _).alloc (Nat.le_refl _) _)).kpd hK9 (by omega); obtain ⟨q0, q1, q2, q3, q4, q5, q6, q7⟩ := id hX9; have hZ9 := hZ5.al.kpd hK9 (by omega))))
      | (go_at_call 79; ((with_reducible refine (l2low _ _ _ _ _ _ _ _ _ _ _ HV.out HK9.out HQ.out).mono ?_); rintro ee w10 ⟨rfl, hb10⟩; have hs10 := hb10.size; (try simp at hs10); have hZ := hZ9.monod hb10; obtain ⟨z0, z1, z2, z3, z4, z5, z6, z7, z8, z9⟩ := hZ)))
    all_goals (go_wp2_with fail; refine bodyPost_ret (v := dy L M0 N O E) (by first | (simp [results, Try.results81, go_sem, *]; done) | (simp (disch := (first | omega | (simp; done) | (simp; omega))) [results, Try.results81, go_sem, *]; done) | (simp only [results, Try.results81]; go_simp; done)) rfl ⟨_, _, _, _, _, rfl, ?_, ?_⟩)
    all_goals (first | (repeat' (first | (with_reducible refine Cu.set ?_ ?_) | (with_reducible refine Cu.alloc ?_ _) | (with_reducible refine Cu.drew ?_) | (exact Cu.mono (by assumption) (by omega)) | (exact Cu.below (Cu.mono (by assumption) (by omega)) (by assumption)) | omega | (simp; omega))) | skip)
    all_goals (repeat' (first | (with_reducible assumption) | (with_reducible exact Kp.refl _ _) | (with_reducible refine Kp.alloc ?_ _) | (with_reducible refine Kp.drew ?_) | (with_reducible refine Kp.setNew ?_ ?_) | (with_reducible refine Kp.trans ?_ (by with_reducible assumption)) | (with_reducible refine Kp.trans ?_ (Kp.ofBelow (by with_reducible assumption))) | omega | (simp; done) | (simp; omega)))
  · refine bodyPost_ret (v := dy d0 d1 d2 d3 d4) (by first | (simp [results, Try.results81, go_sem, *]; done) | (simp (disch := (first | omega | (simp; done) | (simp; omega))) [results, Try.results81, go_sem, *]; done) | (simp only [results, Try.results81]; go_simp; done)) rfl ⟨_, _, _, _, _, rfl, ?_, ?_⟩
    · repeat' (first | (with_reducible refine Cu.set ?_ ?_) | (with_reducible refine Cu.alloc ?_ _) | (with_reducible refine Cu.drew ?_) | (exact Cu.mono (by assumption) (by omega)) | (exact Cu.below (Cu.mono (by assumption) (by omega)) (by assumption)) | omega | (simp; omega))
    · repeat' (first | (with_reducible assumption) | (with_reducible exact Kp.refl _ _) | (with_reducible refine Kp.alloc ?_ _) | (with_reducible refine Kp.drew ?_) | (with_reducible refine Kp.setNew ?_ ?_) | (with_reducible refine Kp.trans ?_ (by with_reducible assumption)) | (with_reducible refine Kp.trans ?_ (Kp.ofBelow (by with_reducible assumption))) | omega | (simp; done) | (simp; omega))
  · refine bodyPost_ret (v := dy (pw k7).a (pw k7).b (pw k7).c (pw k7).d 0) (by first | (simp [results, Try.results81, go_sem, *]; done) | (simp (disch := (first | omega | (simp; done) | (simp; omega))) [results, Try.results81, go_sem, *]; done) | (simp only [results, Try.results81]; go_simp; done)) rfl ⟨_, _, _, _, _, rfl, ?_, ?_⟩
    · repeat' (first | (with_reducible refine Cu.set ?_ ?_) | (with_reducible refine Cu.alloc ?_ _) | (with_reducible refine Cu.drew ?_) | (exact Cu.mono (by assumption) (by omega)) | (exact Cu.below (Cu.mono (by assumption) (by omega)) (by assumption)) | omega | (simp; omega))
    · repeat' (first | (with_reducible assumption) | (with_reducible exact Kp.refl _ _) | (with_reducible refine Kp.alloc ?_ _) | (with_reducible refine Kp.drew ?_) | (with_reducible refine Kp.setNew ?_ ?_) | (with_reducible refine Kp.trans ?_ (by with_reducible assumption)) | (with_reducible refine Kp.trans ?_ (Kp.ofBelow (by with_reducible assumption))) | omega | (simp; done) | (simp; omega))
  · refine bodyPost_ret (v := dy d0 d1 d2 d3 d4) (by first | (simp [results, Try.results81, go_sem, *]; done) | (simp (disch := (first | omega | (simp; done) | (simp; omega))) [results, Try.results81, go_sem, *]; done) | (simp only [results, Try.results81]; go_simp; done)) rfl ⟨_, _, _, _, _, rfl, ?_, ?_⟩
    · repeat' (first | (with_reducible refine Cu.set ?_ ?_) | (with_reducible refine Cu.alloc ?_ _) | (with_reducible refine Cu.drew ?_) | (exact Cu.mono (by assumption) (by omega)) | (exact Cu.below (Cu.mono (by assumption) (by omega)) (by assumption)) | omega | (simp; omega))
    · repeat' (first | (with_reducible assumption) | (with_reducible exact Kp.refl _ _) | (with_reducible refine Kp.alloc ?_ _) | (with_reducible refine Kp.drew ?_) | (with_reducible refine Kp.setNew ?_ ?_) | (with_reducible refine Kp.trans ?_ (by with_reducible assumption)) | (with_reducible refine Kp.trans ?_ (Kp.ofBelow (by with_reducible assumption))) | omega | (simp; done) | (simp; omega))
end Go.Proofs.Ytefmglofnoinmaa
