/- The law on FormatGate. -/
import Derived.Test.YtfbffncbdddemaaDoorFo
namespace Go.Proofs.YtfbffncbdddemaaDoor
open Go.RowKit
set_option linter.unusedVariables false
set_option linter.unusedSimpArgs false
attribute [local irreducible] World.setCell

/-- both answer the same -/
theorem fg_both (g : GateV) (w : World) (hG : ∀ i, i ≤ 12 → w.cell? ⟨0, i, none⟩ = some (.string (gnm i))) : ∃ (T : ByteArray) (ok : Bool),
    (∀ W, Calls Tryd.prog 17 #[g.v] W fun ee w' => ee = .returned (.tuple #[.string T, .bool ok]) ∧ Below W.heap.size W w') ∧
    (∀ W, Below w.heap.size w W → Calls Tryd.prog 19 #[g.v] W fun ee w' => ee = .returned (.tuple #[.string T, .bool ok]) ∧ Below W.heap.size W w') := by
  have l0 : 0 < w.heap.size := World.block_lt_of_cell? _ _ (hG 0 (by omega))
  have hW : ∀ W, Below w.heap.size w W → ∀ i, i ≤ 12 → W.cell? ⟨0, i, none⟩ = some (.string (gnm i)) := fun W hb i hi => (hb.cell (p := ⟨0, i, none⟩) l0).trans (hG i hi)
  cases h : gB 5 g
  · exact ⟨⟨#[]⟩, false, fun W => fs_f h W, fun W _ => fi_f (by unfold vgB; rw [h]; rfl) W⟩
  · have hv : vgB 5 g = true := by unfold vgB; rw [h]; decide
    obtain ⟨f0, f1, f2⟩ := g
    have hh := h
    unfold gB at hh
    dsimp only at hh
    split at hh
    · rename_i h0
      simp only [decide_eq_true_eq] at hh
      obtain ⟨x1, x2, rfl⟩ := hh
      obtain ⟨k, rfl⟩ := Int.eq_ofNat_of_zero_le (show 0 ≤ f0 by omega)
      obtain ⟨a, rfl⟩ := Int.eq_ofNat_of_zero_le x1
      exact ⟨fgT k a 0 1, true, fun W => fs_1 (b := 0) (by omega) (by omega) (by omega) (by omega) h (by omega) W, fun W hb => fi_t (b := 0) (q := 1) (by omega) (by omega) (by omega) (by omega) hv (qa_8 (inB_t (by dsimp only; omega) (by dsimp only; omega))) (by omega) W (hW W hb)⟩
    · split at hh
      · rename_i h0
        simp only [decide_eq_true_eq] at hh
        obtain ⟨x1, x2, x3, x4, x5⟩ := hh
        obtain ⟨k, rfl⟩ := Int.eq_ofNat_of_zero_le (show 0 ≤ f0 by omega)
        obtain ⟨a, rfl⟩ := Int.eq_ofNat_of_zero_le x1
        obtain ⟨b, rfl⟩ := Int.eq_ofNat_of_zero_le x3
        exact ⟨fgT k a b 2, true, fun W => fs_2 (by omega) (by omega) (by omega) (by omega) h ⟨by omega, by omega⟩ W, fun W hb => fi_t (q := 2) (by omega) (by omega) (by omega) (by omega) hv (qa_11 (inB_t (by dsimp only; omega) (by dsimp only; omega))) (by omega) W (hW W hb)⟩
      · simp only [decide_eq_true_eq] at hh
        obtain ⟨rfl, rfl, rfl⟩ := hh
        exact ⟨fgT 12 0 0 0, true, fun W => fs_0 (k := 12) (a := 0) (b := 0) (by omega) (by omega) (by omega) (by omega) h rfl W, fun W hb => fi_t (k := 12) (a := 0) (b := 0) (q := 0) (by omega) (by omega) (by omega) (by omega) hv (qa_12 rfl) (by omega) W (hW W hb)⟩

set_option maxRecDepth 100000 in
set_option maxHeartbeats 2000000 in
theorem fnExactFormatGate_walk (g : GateV) (w : World) (hG : ∀ i, i ≤ 12 → w.cell? ⟨0, i, none⟩ = some (.string (gnm i))) :
    Calls Tryd.prog 6 #[g.v] w fun ee w' => ee = .returned (.bool true) ∧ Below w.heap.size w w' := by
  obtain ⟨T, ok, hs, hi⟩ := fg_both g w hG
  have HS := lay hs
  have HI := lay hi
  clear hs hi hG
  go_enter Tryd.func6, Tryd.ntmps6
  go_wp2_with (fail)
  refine (toGate g _).mono ?_
  rintro ee w1 ⟨rfl, hb1⟩
  have X1 := lay (Bb.mono (b := w.heap.size) (t := 40) (cs := #[.int .i64 g.f0, .int .i64 g.f1, .int .i64 g.f2]) (Bb.new rfl) hb1)
  have B1 := lay (show Below w.heap.size w w1 from by (repeat' (first | (with_reducible exact Below.refl _ _) | (with_reducible assumption) | (with_reducible refine Below.alloc ?_ ?_ _) | (with_reducible refine Below.drew ?_) | (with_reducible refine bdN ?_ _) | (with_reducible refine Below.setCell ?_ ?_ _) | (with_reducible refine chn ?_ (by assumption) ?_) | omega | (simp; done) | (simp; omega))))
  clear hb1
  go_wp2_with (fail)
  refine (HS.out _).mono ?_
  rintro ee w2 ⟨rfl, hb2⟩
  have X2 := lay (X1.out.mono hb2)
  have B2 := lay (chn B1.out hb2 B1.out.size)
  clear hb2 X1
  have c0 := X2.out.c 0 rfl
  have c1 := X2.out.c 1 rfl
  have c2 := X2.out.c 2 rfl
  go_wp2_with (fail)
  refine (toGate g _).mono ?_
  rintro ee w3 ⟨rfl, hb3⟩
  have B3 := lay (chn B2.out hb3 B2.out.size)
  clear hb3 c0 c1 c2 X2
  go_wp2_with (fail)
  refine (HI.out _ B3.out).mono ?_
  rintro ee w4 ⟨rfl, hb4⟩
  have B4 := lay (chn B3.out hb4 B3.out.size)
  clear hb4
  go_wp2_with (fail)
  go_ret
  exact ⟨rfl, B4.out⟩

end Go.Proofs.YtfbffncbdddemaaDoor
