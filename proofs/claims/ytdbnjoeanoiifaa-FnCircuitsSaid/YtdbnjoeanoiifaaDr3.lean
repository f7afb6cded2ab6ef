/- Draws of circuits: a small circuit. -/
import Derived.Test.YtdbnjoeanoiifaaDr2
namespace Go.Proofs.Ytdbnjoeanoiifaa
open Go.RowKit
set_option linter.unusedVariables false
set_option linter.unusedSimpArgs false
attribute [local irreducible] World.setCell

/-- a circuit on one to three qubits is drawn -/
def CjP (g : Nat) (A : Option Addr) (len cap M most : Nat) (w : World) (ee : Ending) (w' : World) : Prop := ∃ n : Int, 1 ≤ n ∧ n ≤ 3 ∧ CiP g A len cap M n most w ee w'
set_option maxRecDepth 100000 in
set_option maxHeartbeats 8000000 in
theorem circ_any {g len cap M : Nat} {A : Option Addr} {w : World} (h : Cu w g A len cap M) (hl : (len : Int) ≤ 9223372036854775807) (hM : M ≤ 10000000) :
    Calls Try.prog 58 #[.pointer (some ⟨g, 0, none⟩)] w fun ee w' => CjP g A len cap (M + 60) 8 w ee w' := by
  have HC := lay h
  have hgl := h.lt
  clear h
  go_enter Try.func58, Try.ntmps58
  go_wp2_with (fail)
  refine (among_any (w.heap.size + 1) 0 4 4 (by omega) (by omega) ((HC.out.alloc _).alloc _) hl (by omega) (by omega) (fun i hi => ?_)).mono ?_
  · obtain rfl | rfl | rfl | rfl : i = 0 ∨ i = 1 ∨ i = 2 ∨ i = 3 := by omega
    all_goals exact ⟨_, by simp; rfl⟩
  rintro ee w1 ⟨v, rfl, ⟨i, hi, hv⟩, hC1, hK1⟩
  have hv3 : 1 ≤ v ∧ v ≤ 3 := by
    obtain rfl | rfl | rfl | rfl : i = 0 ∨ i = 1 ∨ i = 2 ∨ i = 3 := by omega
    all_goals (simp at hv; omega)
  have hs1 := hK1.size
  simp only [World.size_alloc] at hs1
  have XR := lay (((Bb.new (W := w) (b := w.heap.size) (t := 42) (cs := #[.int .i64 0, .slice none 0 0]) rfl).alloc _).kp hK1 (by omega))
  have K1 := lay ((((Kp.refl g w).alloc _).alloc _).trans hK1)
  have C1 := lay hC1
  clear hC1 hK1 hv hi
  go_wp2_with (fail)
  refine (built_any (C1.out.alloc _) hl (by omega) (n := v) hv3.1 (by omega) (most := 8) (by omega) (by omega) (b := w1.heap.size) (o := 0) (m := 15) (by omega) (by omega) (by omega) (fun i hi => ?_)).mono ?_
  · obtain rfl | rfl | rfl | rfl | rfl | rfl | rfl | rfl | rfl | rfl | rfl | rfl | rfl | rfl | rfl : i = 0 ∨ i = 1 ∨ i = 2 ∨ i = 3 ∨ i = 4 ∨ i = 5 ∨ i = 6 ∨ i = 7 ∨ i = 8 ∨ i = 9 ∨ i = 10 ∨ i = 11 ∨ i = 12 ∨ i = 13 ∨ i = 14 := by omega
    all_goals exact ⟨_, by simp; rfl⟩
  rintro ee w2 ⟨B, cq, xs, rfl, hx, hR, hC2, hK2⟩
  have hs2 := hK2.size
  simp only [World.size_alloc] at hs2 hR
  have XR2 := lay ((XR.out.alloc _).kp hK2 (by omega))
  have R0 := XR2.out.c 0 rfl
  have R1 := XR2.out.c 1 rfl
  have Rf := XR2.out.f
  have Rl := XR2.out.lt
  have K2 := lay ((K1.out.alloc _).trans hK2)
  have HX := lay hx
  have HC2 := lay hC2
  obtain ⟨L, hL⟩ : ∃ L, xs.length = L := ⟨_, rfl⟩
  have HL := lay hL
  rw [hL] at hR ⊢
  have HR := lay hR
  clear hR
  clear hx hC2 hK2 hL XR K1 C1
  go_wp2_with (fail)
  refine bodyPost_ret (v := circuitV v B L cq) (by first | (simp [results, Try.results58, go_sem, *]; done) | (simp (disch := (first | omega | (simp; done) | (simp; omega))) [results, Try.results58, go_sem, *]; done) | (simp only [results, Try.results58]; go_simp; done)) rfl ⟨v, hv3.1, hv3.2, CiP.i (xs := xs) HL.out rfl (by rw [← HL.out]; exact HX.out) ?_ ?_ ?_⟩
  · refine Own.dn (base := w1.heap.size + 1) ?_ (by omega)
    have R := HR.out
    (repeat' (first | exact R | (refine Own.far ?_ (by dsimp only; omega) _)))
  · have C9 := HC2.out.mono (M' := M + 60) (by omega)
    (repeat' (first | (with_reducible exact C9) | (with_reducible refine Cu.alloc ?_ _) | (with_reducible refine Cu.drew ?_) | (with_reducible refine Cu.set ?_ (by omega))))
  · have K9 := K2.out
    (repeat' (first | (with_reducible exact K9) | (with_reducible refine Kp.alloc ?_ _) | (with_reducible refine Kp.drew ?_) | (with_reducible refine Kp.setNew ?_ (by omega))))

end Go.Proofs.Ytdbnjoeanoiifaa
