/- The draw of a dividend and a divisor. -/
import Derived.Test.YtefmglofnoinmaaLawZ
import Derived.Deep.LoopGhost
import Derived.Test.YtefmglofnoinmaaHeldB
import Derived.Deep.RegionHeld3
import Derived.Deep.MidRow
import Derived.Deep.DeepCutAuto
import Derived.Deep.RegionWith
import Derived.RegionTactic
import Derived.BigRegion
import Derived.ChangeAlike
import Derived.Deep.DeepCutAuto
namespace Go.Proofs.Ytefmglofnoinmaa
open Go.RowKit RM
set_option linter.unusedVariables false
set_option linter.unusedSimpArgs false
attribute [local irreducible] World.setCell

set_option maxRecDepth 100000 in
set_option maxHeartbeats 8000000 in
theorem dDiv {A : Option Addr} {len cap : Nat} {w : World} (h : Bs w A len) :
    Calls Try.prog 25 #[.slice A len cap] w fun e w' => ∃ a b c d p q r s : Int, e = .returned (.tuple #[rg a b c d, rg p q r s]) ∧ Below w.heap.size w w' := by
  have HC := hid h
  have HL := hid h.le
  clear h
  go_enter Try.func25, Try.ntmps25
  go_wp2_with (first | (go_at_call 70; ((with_reducible refine (anyRing_any (Cu.startg (g := w.heap.size + 1 + 1) cap _ ((HC.out.alloc _).alloc _) (by simp)) HL.out (by omega)).mono ?_); rintro ee w1 ⟨a, b, c, d, rfl, hC1, hK1⟩; have HC1 := hid hC1; have hs1 := hK1.size; (try simp at hs1); have P1 := ((C4.new w 25).mono (((Below.refl _ _).alloc (Nat.le_refl _) _).alloc (by simp) _)).kp hK1 (by omega); have R1 := ((C4.ofg (W := w.alloc (.cells #[.int .i64 0, .int .i64 0, .int .i64 0, .int .i64 0] 25)) (g := w.heap.size + 1) 0 0 0 0 25 (by simp)).mono ((Below.refl _ _).alloc (Nat.le_refl _) _)).kp hK1 (by omega))) | (go_at_call 71; ((with_reducible refine (ring_any HC1.out HL.out (by omega)).mono ?_); rintro ee w2 ⟨p, q, r, s, rfl, hv2, hC2, hK2⟩; have HC2 := hid hC2; have hs2 := hK2.size; (try simp at hs2); have P2 := P1.kp hK2 (by omega); have R2 := R1.kp hK2 (by omega); rcases hq1 : mv ⟨a, b, c, d⟩ ⟨p, q, r, s⟩ with ⟨⟨A1, B1, C1, D1⟩, k1⟩; have HQ1 := hid hq1; clear hq1)) | (go_at_call 21; ((with_reducible refine (mul_sd a b c d p q r s A1 B1 C1 D1 _ _ HQ1.out).mono ?_); rintro ee w3 ⟨rfl, hb3⟩; have hs3 := hb3.size; (try simp at hs3); have P3 := (P2.al.al).mono hb3; have R3 := (R2.al.al).mono hb3; have X3 := ((C4.ofg (W := w2) (g := w2.heap.size) a b c d 25 rfl).al).mono hb3; have Y3 := (C4.ofg (W := w2.alloc (.cells #[.int .i64 a, .int .i64 b, .int .i64 c, .int .i64 d] 25)) (g := w2.heap.size + 1) p q r s 25 (by simp)).mono hb3; have HC3 := hid (((HC2.out.alloc _).alloc _).below hb3); have hlP := P3.lt; obtain ⟨cP0, cP1, cP2, cP3, fP0, fP1, fP2, fP3⟩ := id P3; have hlR := R3.lt; obtain ⟨cR0, cR1, cR2, cR3, fR0, fR1, fR2, fR3⟩ := id R3; have hlX := X3.lt; obtain ⟨cX0, cX1, cX2, cX3, fX0, fX1, fX2, fX3⟩ := id X3; have hlY := Y3.lt; obtain ⟨cY0, cY1, cY2, cY3, fY0, fY1, fY2, fY3⟩ := id Y3)) | (go_at_call 72; ((with_reducible refine (one_any _ (by decide) (by decide) (HC3.out.alloc _) HL.out (by omega)).mono ?_); rintro ee w4 ⟨v4, rfl, hC4, hK4⟩; have HC4 := hid hC4; have hs4 := hK4.size; (try simp at hs4); have P4 := P3.al.kp hK4 (by omega); have R4 := R3.al.kp hK4 (by omega); have X4 := X3.al.kp hK4 (by omega); have Y4 := Y3.al.kp hK4 (by omega); have Z4 := (C4.ofg (W := w3) (g := w3.heap.size) A1 B1 C1 D1 25 rfl).kp hK4 (by omega); have hlP := P4.lt; obtain ⟨cP0, cP1, cP2, cP3, fP0, fP1, fP2, fP3⟩ := id P4; have hlR := R4.lt; obtain ⟨cR0, cR1, cR2, cR3, fR0, fR1, fR2, fR3⟩ := id R4; have hlX := X4.lt; obtain ⟨cX0, cX1, cX2, cX3, fX0, fX1, fX2, fX3⟩ := id X4; have hlY := Y4.lt; obtain ⟨cY0, cY1, cY2, cY3, fY0, fY1, fY2, fY3⟩ := id Y4; have hlZ := Z4.lt; obtain ⟨cZ0, cZ1, cZ2, cZ3, fZ0, fZ1, fZ2, fZ3⟩ := id Z4)))
  all_goals (have hne1 : ¬ (w.heap.size + 1 = w.heap.size) := (by omega); have hne2 : ¬ (w.heap.size = w.heap.size + 1) := (by omega))
  all_goals go_region
  all_goals (go_wp2_with fail)
  · refine bodyPost_ret (v := .tuple #[rg A1 B1 C1 D1, rg p q r s]) (by first | (simp [results, Try.results25, go_sem, *]; done) | (simp (disch := (first | omega | (simp; done) | (simp; omega))) [results, Try.results25, go_sem, *]; done) | (simp only [results, Try.results25]; go_simp; done)) rfl ⟨_, _, _, _, _, _, _, _, rfl, ?_⟩
    repeat' (first | (with_reducible assumption) | (with_reducible exact Below.refl _ _) | (with_reducible refine Below.alloc ?_ ?_ _) | (with_reducible refine Below.drew ?_) | (with_reducible refine Below.setCell ?_ ?_ _) | (with_reducible refine Kp.belowA (by with_reducible assumption) ?_ ?_) | (with_reducible refine chain ?_ (by with_reducible assumption) ?_) | omega | (simp; done) | (simp; omega))
  all_goals (refine bodyPost_ret (v := .tuple #[rg a b c d, rg p q r s]) (by first | (simp [results, Try.results25, go_sem, *]; done) | (simp (disch := (first | omega | (simp; done) | (simp; omega))) [results, Try.results25, go_sem, *]; done) | (simp only [results, Try.results25]; go_simp; done)) rfl ⟨_, _, _, _, _, _, _, _, rfl, ?_⟩)
  all_goals (repeat' (first | (with_reducible assumption) | (with_reducible exact Below.refl _ _) | (with_reducible refine Below.alloc ?_ ?_ _) | (with_reducible refine Below.drew ?_) | (with_reducible refine Below.setCell ?_ ?_ _) | (with_reducible refine Kp.belowA (by with_reducible assumption) ?_ ?_) | (with_reducible refine chain ?_ (by with_reducible assumption) ?_) | omega | (simp; done) | (simp; omega)))
end Go.Proofs.Ytefmglofnoinmaa
