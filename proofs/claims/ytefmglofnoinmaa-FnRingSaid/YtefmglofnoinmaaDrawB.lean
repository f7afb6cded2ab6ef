/- Contracts of the draws of numbers of the ring and of dyadic numbers. -/
import Derived.Test.YtefmglofnoinmaaDraw
import Derived.Deep.LoopGhost
import Derived.Test.YtefmglofnoinmaaHeldB
import Derived.Deep.RegionHeld3
import Derived.Deep.MidRow
import Derived.Deep.DeepCutAuto
import Derived.Deep.RegionWith
namespace Go.Proofs.Ytefmglofnoinmaa
open Go.RowKit RM
set_option linter.unusedVariables false
set_option linter.unusedSimpArgs false
attribute [local irreducible] World.setCell

set_option maxRecDepth 100000 in
set_option maxHeartbeats 8000000 in
theorem coef_any {g len cap M : Nat} {A : Option Addr} {w : World} (h : Cu w g A len cap M) (hl : (len : Int) ≤ 9223372036854775807) (hM : M ≤ 2000000000) :
    Calls Try.prog 98 #[.pointer (some ⟨g, 0, none⟩)] w fun e w' => ∃ v : Int, e = .returned (.int .i64 v) ∧ Cu w' g A len cap (M + 4) ∧ Kp g w w' := by
  have HC := hid h
  have hg := h.lt
  clear h
  have HL := hid hl
  clear hl
  go_enter Try.func98, Try.ntmps98
  go_wp2_with (first | (go_at_call 76; ((with_reducible refine (among_any w1.heap.size 0 4 4 (by decide) (by decide) (HC1.out.alloc _) HL.out (by omega) ?hb ?hz).mono ?_); (case hb => have := HC1.out.lt; omega); (case hz => intro i hi; rcases (show i = 0 ∨ i = 1 ∨ i = 2 ∨ i = 3 ∨ i = 4 by omega) with rfl | rfl | rfl | rfl | rfl <;> first | exact ⟨_, (World.cell?_alloc_at _ _ _ _ rfl).trans rfl⟩ | omega); (rintro ee w2 ⟨v2, rfl, _, hC2, hK2⟩; have HC2 := hid hC2; have hs2 := hK2.size; (try simp at hs2)))) | (go_at_call 77; ((with_reducible refine (pick_any _ (by decide) (by decide) HC.out HL.out (by omega)).mono ?_); rintro ee w1 ⟨v1, rfl, a1, b1, hC1, hK1⟩; have HC1 := hid hC1; have hs1 := hK1.size; (try simp at hs1))) | (go_at_call 77; ((with_reducible refine (pick_any _ (by decide) (by decide) HC1.out HL.out (by omega)).mono ?_); rintro ee w2 ⟨v2, rfl, a2, b2, hC2, hK2⟩; have HC2 := hid hC2; have hs2 := hK2.size; (try simp at hs2))))
  all_goals (go_ret; refine ⟨_, rfl, ?_, ?_⟩)
  all_goals (first | (exact Cu.mono (by assumption) (by omega)) | (repeat' (first | (with_reducible assumption) | (with_reducible exact Kp.refl _ _) | (with_reducible refine Kp.alloc ?_ _) | (with_reducible refine Kp.drew ?_) | (with_reducible refine Kp.setNew ?_ ?_) | (with_reducible refine Kp.trans ?_ (by with_reducible assumption)) | (with_reducible refine Kp.trans ?_ (Kp.ofBelow (by with_reducible assumption))) | omega | (simp; done) | (simp; omega))))

set_option maxRecDepth 100000 in
set_option maxHeartbeats 8000000 in
theorem ring_any {g len cap M : Nat} {A : Option Addr} {w : World} (h : Cu w g A len cap M) (hl : (len : Int) ≤ 9223372036854775807) (hM : M ≤ 2000000000) :
    Calls Try.prog 71 #[.pointer (some ⟨g, 0, none⟩)] w fun e w' => ∃ a b c d : Int, e = .returned (rg a b c d) ∧ vr a b c d = true ∧ Cu w' g A len cap (M + 8) ∧ Kp g w w' := by
  have HC := hid h
  have hg := h.lt
  clear h
  have HL := hid hl
  clear hl
  go_enter Try.func71, Try.ntmps71
  go_wp2_with (first | (go_at_call 77; ((with_reducible refine (pick_any _ (by decide) (by decide) (hid (HC.out.alloc _)).out HL.out (by omega)).mono ?_); rintro ee w1 ⟨v1, rfl, a1, b1, hC1, hK1⟩; have HC1 := hid hC1; have hs1 := hK1.size; (try simp at hs1))) | (go_at_call 77; ((with_reducible refine (pick_any _ (by decide) (by decide) HC1.out HL.out (by omega)).mono ?_); rintro ee w2 ⟨v2, rfl, a2, b2, hC2, hK2⟩; have HC2 := hid hC2; have hs2 := hK2.size; (try simp at hs2))) | (go_at_call 77; ((with_reducible refine (pick_any _ (by decide) (by decide) HC2.out HL.out (by omega)).mono ?_); rintro ee w3 ⟨v3, rfl, a3, b3, hC3, hK3⟩; have HC3 := hid hC3; have hs3 := hK3.size; (try simp at hs3))) | (go_at_call 77; ((with_reducible refine (pick_any _ (by decide) (by decide) HC3.out HL.out (by omega)).mono ?_); rintro ee w4 ⟨v4, rfl, a4, b4, hC4, hK4⟩; have HC4 := hid hC4; have hs4 := hK4.size; (try simp at hs4); have hZ := ((((C4.new w 25).kp hK1 (by omega)).kp hK2 (by omega)).kp hK3 (by omega)).kp hK4 (by omega); obtain ⟨z0, z1, z2, z3, z4, z5, z6, z7⟩ := hZ)))
  refine bodyPost_ret (v := rg (v1 - 4) (v2 - 4) (v3 - 4) (v4 - 4)) (by first | (simp [results, Try.results71, go_sem, *]; done) | (simp (disch := (first | omega | (simp; done) | (simp; omega))) [results, Try.results71, go_sem, *]; done) | (simp only [results, Try.results71]; go_simp; done)) rfl ⟨_, _, _, _, rfl, vr_iff.2 ⟨by omega, by omega, by omega, by omega⟩, ?_, ?_⟩
  · repeat' (first | (with_reducible refine Cu.set ?_ ?_) | (with_reducible refine Cu.alloc ?_ _) | (with_reducible refine Cu.drew ?_) | (exact Cu.mono (by assumption) (by omega)) | (exact Cu.below (Cu.mono (by assumption) (by omega)) (by assumption)) | omega | (simp; omega))
  · repeat' (first | (with_reducible assumption) | (with_reducible exact Kp.refl _ _) | (with_reducible refine Kp.alloc ?_ _) | (with_reducible refine Kp.drew ?_) | (with_reducible refine Kp.setNew ?_ ?_) | (with_reducible refine Kp.trans ?_ (by with_reducible assumption)) | (with_reducible refine Kp.trans ?_ (Kp.ofBelow (by with_reducible assumption))) | omega | (simp; done) | (simp; omega))
end Go.Proofs.Ytefmglofnoinmaa
