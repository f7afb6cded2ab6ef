/- IsValidForm: the program. -/
import Derived.Test.YtofclfgaekjonaaDoorVg
namespace Go.Proofs.YtofclfgaekjonaaDoor
open Go.RowKit RM
set_option linter.unusedVariables false
set_option linter.unusedSimpArgs false
attribute [local irreducible] World.setCell

set_option maxRecDepth 100000 in
set_option maxHeartbeats 4000000 in
theorem vf_i0 {s : ByteArray} {c p : Int} (h : ¬ (s.size ≤ 40)) (hz : s.size ≤ 1048576) (w : World) :
    Calls Tryd.prog 20 #[fmv s c p] w fun ee w' => ee = .returned (.bool false) ∧ Below w.heap.size w w' := by
  have a1 : (s.size : Int) > 40 := by omega
  clear hz
  go_enter Tryd.func20, Tryd.ntmps20
  go_wp2_with (fail)
  go_ret
  refine ⟨rfl, ?_⟩
  (repeat' (first | (with_reducible exact Below.refl _ _) | (with_reducible assumption) | (with_reducible refine Below.alloc ?_ ?_ _) | (with_reducible refine Below.drew ?_) | (with_reducible refine below_drewN ?_ _) | (with_reducible refine Below.setCell ?_ ?_ _) | (with_reducible refine chain ?_ (by assumption) ?_) | omega | (simp; done) | (simp; omega)))

set_option maxRecDepth 100000 in
set_option maxHeartbeats 4000000 in
theorem vf_i1 {s : ByteArray} {c p : Int} (h0 : s.size ≤ 40) (h : c < 0) (hz : s.size ≤ 1048576) (w : World) :
    Calls Tryd.prog 20 #[fmv s c p] w fun ee w' => ee = .returned (.bool false) ∧ Below w.heap.size w w' := by
  have a1 : ¬ ((s.size : Int) > 40) := by omega
  have a1b : (s.size : Int) ≤ 40 := by omega
  clear hz
  go_enter Tryd.func20, Tryd.ntmps20
  go_wp2_with (fail)
  go_ret
  refine ⟨rfl, ?_⟩
  (repeat' (first | (with_reducible exact Below.refl _ _) | (with_reducible assumption) | (with_reducible refine Below.alloc ?_ ?_ _) | (with_reducible refine Below.drew ?_) | (with_reducible refine below_drewN ?_ _) | (with_reducible refine Below.setCell ?_ ?_ _) | (with_reducible refine chain ?_ (by assumption) ?_) | omega | (simp; done) | (simp; omega)))

set_option maxRecDepth 100000 in
set_option maxHeartbeats 4000000 in
theorem vf_i2 {s : ByteArray} {c p : Int} (h0 : s.size ≤ 40) (h1 : 0 ≤ c) (h : 23 < c) (hz : s.size ≤ 1048576) (w : World) :
    Calls Tryd.prog 20 #[fmv s c p] w fun ee w' => ee = .returned (.bool false) ∧ Below w.heap.size w w' := by
  have a1 : ¬ ((s.size : Int) > 40) := by omega
  have a1b : (s.size : Int) ≤ 40 := by omega
  have a2 : ¬ (c < 0) := by omega
  have a3 : 24 ≤ c := by omega
  clear hz
  go_enter Tryd.func20, Tryd.ntmps20
  go_wp2_with (fail)
  go_ret
  refine ⟨rfl, ?_⟩
  (repeat' (first | (with_reducible exact Below.refl _ _) | (with_reducible assumption) | (with_reducible refine Below.alloc ?_ ?_ _) | (with_reducible refine Below.drew ?_) | (with_reducible refine below_drewN ?_ _) | (with_reducible refine Below.setCell ?_ ?_ _) | (with_reducible refine chain ?_ (by assumption) ?_) | omega | (simp; done) | (simp; omega)))

set_option maxRecDepth 100000 in
set_option maxHeartbeats 4000000 in
theorem vf_i3 {s : ByteArray} {c p : Int} (h0 : s.size ≤ 40) (h1 : 0 ≤ c) (h2 : c ≤ 23) (h : p < 0) (hz : s.size ≤ 1048576) (w : World) :
    Calls Tryd.prog 20 #[fmv s c p] w fun ee w' => ee = .returned (.bool false) ∧ Below w.heap.size w w' := by
  have a1 : ¬ ((s.size : Int) > 40) := by omega
  have a1b : (s.size : Int) ≤ 40 := by omega
  have a2 : ¬ (c < 0) := by omega
  have a3 : ¬ (24 ≤ c) := by omega
  have a4 : c < 24 := by omega
  clear hz
  go_enter Tryd.func20, Tryd.ntmps20
  go_wp2_with (fail)
  go_ret
  refine ⟨rfl, ?_⟩
  (repeat' (first | (with_reducible exact Below.refl _ _) | (with_reducible assumption) | (with_reducible refine Below.alloc ?_ ?_ _) | (with_reducible refine Below.drew ?_) | (with_reducible refine below_drewN ?_ _) | (with_reducible refine Below.setCell ?_ ?_ _) | (with_reducible refine chain ?_ (by assumption) ?_) | omega | (simp; done) | (simp; omega)))

set_option maxRecDepth 100000 in
set_option maxHeartbeats 4000000 in
theorem vf_i4 {s : ByteArray} {c p : Int} (h0 : s.size ≤ 40) (h1 : 0 ≤ c) (h2 : c ≤ 23) (h3 : 0 ≤ p) (h : 7 < p) (hz : s.size ≤ 1048576) (w : World) :
    Calls Tryd.prog 20 #[fmv s c p] w fun ee w' => ee = .returned (.bool false) ∧ Below w.heap.size w w' := by
  have a1 : ¬ ((s.size : Int) > 40) := by omega
  have a1b : (s.size : Int) ≤ 40 := by omega
  have a2 : ¬ (c < 0) := by omega
  have a3 : ¬ (24 ≤ c) := by omega
  have a4 : c < 24 := by omega
  have a5 : ¬ (p < 0) := by omega
  have a6 : 8 ≤ p := by omega
  clear hz
  go_enter Tryd.func20, Tryd.ntmps20
  go_wp2_with (fail)
  go_ret
  refine ⟨rfl, ?_⟩
  (repeat' (first | (with_reducible exact Below.refl _ _) | (with_reducible assumption) | (with_reducible refine Below.alloc ?_ ?_ _) | (with_reducible refine Below.drew ?_) | (with_reducible refine below_drewN ?_ _) | (with_reducible refine Below.setCell ?_ ?_ _) | (with_reducible refine chain ?_ (by assumption) ?_) | omega | (simp; done) | (simp; omega)))

theorem chB_big {j v : Nat} (h : 128 ≤ v) : chB j v = false := by
  have h1 : (v == 72) = false := by simp; omega
  have h2 : (v == 83) = false := by simp; omega
  have h3 : (v == 84) = false := by simp; omega
  unfold chB; rw [h1, h2, h3]; rfl
set_option maxRecDepth 100000 in
set_option maxHeartbeats 8000000 in
theorem vf_i5 {s : ByteArray} {c p : Int} (h0 : s.size ≤ 40) (h1 : 0 ≤ c) (h2 : c ≤ 23) (h3 : 0 ≤ p) (h4 : p ≤ 7) (w : World) :
    Calls Tryd.prog 20 #[fmv s c p] w fun ee w' => ee = .returned (.bool (vfm s c p)) ∧ Below w.heap.size w w' := by
  have a1 : ¬ ((s.size : Int) > 40) := by omega
  have a1b : (s.size : Int) ≤ 40 := by omega
  have a2 : ¬ (c < 0) := by omega
  have a3 : ¬ (24 ≤ c) := by omega
  have a4 : c < 24 := by omega
  have a5 : ¬ (p < 0) := by omega
  have a6 : ¬ (8 ≤ p) := by omega
  have a7 : p < 8 := by omega
  go_enter Tryd.func20, Tryd.ntmps20
  go_upto_region 3 with (fail)
  obtain ⟨W, hW⟩ : ∃ W : World, W = w.alloc (.cells #[.string s, .int .i64 c, .int .i64 p] 30) := ⟨_, rfl⟩
  have hBW : Below w.heap.size w W := by rw [hW]; exact (Below.refl _ _).alloc (Nat.le_refl _) _
  have k0 : W.cell? ⟨w.heap.size, 0, none⟩ = some (.string s) := by rw [hW]; first | rfl | (simp; done)
  rw [← hW]
  clear hW
  go_wp2_with (fail)
  go_loopg [] s.size (fun q wr => ∃ j : Nat, j + q = s.size ∧ Hid (∀ i, i < j → chB i (sb s i) = true) ∧ W.iter s j = wr)
  case atStart => exact ⟨0, by omega, fun i hi => absurd hi (Nat.not_lt_zero i), rfl⟩
  case round =>
    obtain ⟨j, hj, HC, rfl⟩ := hrel
    cases gk with
    | zero =>
      obtain rfl : j = s.size := by omega
      have HV := hid (vfm_t (syl_t HC.out) h0 h1 h2 h3 h4)
      have hn := fun ty => run_next_end (P := Tryd.prog) W s s.size ty (by omega)
      go_wp2_with (fail)
      go_ret
      exact ⟨by rw [HV.out]; rfl, hBW.alloc hBW.size _⟩
    | succ m =>
      have hlt : j < s.size := by omega
      have hv := sb_at hlt
      obtain ⟨v, hve⟩ : ∃ v, v = sb s j := ⟨_, rfl⟩
      rw [← hve] at hv
      have HVE := hid hve
      have hv2 : (s[j]'hlt).toNat = v := hv.symm
      clear hv hve
      by_cases hj0 : j = 0
      · subst hj0
        by_cases hv : v < 128
        · have hn := fun ty => run_next_ascii (P := Tryd.prog) W s 0 ty hlt (by rw [hv2]; exact hv)
          simp only [hv2] at hn
          have hv3 : (v : Int) < 128 := by omega
          cases hch : chB 0 v
          · have HCH := hid hch
            have HV := hid (vfm_s (c := c) (p := p) (syl_f hlt (by rw [← HVE.out]; exact hch)))
            clear hch
            go_wp2_with (first | (go_at_call 40; ((refine (la_0 _).mono ?_); rintro ee w1 ⟨rfl, rfl⟩)) | (go_at_call 39; ((refine (cr_t_a hv HCH.out _).mono ?_); rintro ee w1 ⟨rfl, rfl⟩)))
            go_ret
            exact ⟨by rw [HV.out]; rfl, hBW.alloc hBW.size _⟩
          · have HCH := hid hch
            have HC2 : Hid (∀ i, i < 0 + 1 → chB i (sb s i) = true) := by
              intro i hi
              rcases Nat.lt_succ_iff_lt_or_eq.1 hi with h | h
              · exact HC.out i h
              · subst h; rw [← HVE.out]; exact hch
            clear hch
            go_wp2_with (first | (go_at_call 40; ((refine (la_0 _).mono ?_); rintro ee w1 ⟨rfl, rfl⟩)) | (go_at_call 39; ((refine (cr_t_a hv HCH.out _).mono ?_); rintro ee w1 ⟨rfl, rfl⟩)))
            go_roundg m
            case measure => omega
            case rel => exact ⟨0 + 1, by omega, HC2, rfl⟩
        · have hn := fun ty => run_next_any (P := Tryd.prog) W s 0 ty hlt
          obtain ⟨d1, d2, d3⟩ := decode_big s 0 hlt (by rw [hv2]; exact hv)
          obtain ⟨R, hR⟩ : ∃ R : Int, R = ((Utf8.decode s 0).1 : Int) := ⟨_, rfl⟩
          obtain ⟨K, hK⟩ : ∃ K, K = (Utf8.decode s 0).2 := ⟨_, rfl⟩
          have HR1 : Hid (128 ≤ R) := by show _ ≤ _; rw [hR]; omega
          have HR2 : Hid (Utf8.valid R = true) := by show _ = _; rw [hR]; exact d2
          simp only [← hR, ← hK] at hn
          clear hR hK d1 d2 d3
          have HV := hid (vfm_s (c := c) (p := p) (syl_f hlt (by rw [← HVE.out]; exact chB_big (by omega))))
          go_wp2_with (first | (go_at_call 40; ((refine (la_0 _).mono ?_); rintro ee w1 ⟨rfl, rfl⟩)) | (go_at_call 39; ((refine (cr_f_a HR1.out HR2.out _).mono ?_); rintro ee w1 ⟨rfl, hb1⟩)))
          go_ret
          exact ⟨by rw [HV.out]; rfl, by
            have hz1 := hb1.size
            exact chain (hBW.alloc hBW.size _) hb1 (by have := hBW.size; simp only [World.iter, World.size_alloc] at hz1 ⊢; omega)⟩
      · have hjn : ¬ ((j : Int) = 0) := by omega
        by_cases hv : v < 128
        · have hn := fun ty => run_next_ascii (P := Tryd.prog) W s j ty hlt (by rw [hv2]; exact hv)
          simp only [hv2] at hn
          have hv3 : (v : Int) < 128 := by omega
          cases hch : chB 1 v
          · have HCH := hid hch
            have HV := hid (vfm_s (c := c) (p := p) (syl_f hlt (by rw [← HVE.out, chB_n hj0]; exact hch)))
            clear hch
            go_wp2_with (first | (go_at_call 40; ((refine (la_n hjn _).mono ?_); rintro ee w1 ⟨rfl, rfl⟩)) | (go_at_call 39; ((refine (cr_t_b hv HCH.out _).mono ?_); rintro ee w1 ⟨rfl, rfl⟩)))
            go_ret
            exact ⟨by rw [HV.out]; rfl, hBW.alloc hBW.size _⟩
          · have HCH := hid hch
            have HC2 : Hid (∀ i, i < j + 1 → chB i (sb s i) = true) := by
              intro i hi
              rcases Nat.lt_succ_iff_lt_or_eq.1 hi with h | h
              · exact HC.out i h
              · subst h; rw [← HVE.out, chB_n hj0]; exact hch
            clear hch
            go_wp2_with (first | (go_at_call 40; ((refine (la_n hjn _).mono ?_); rintro ee w1 ⟨rfl, rfl⟩)) | (go_at_call 39; ((refine (cr_t_b hv HCH.out _).mono ?_); rintro ee w1 ⟨rfl, rfl⟩)))
            go_roundg m
            case measure => omega
            case rel => exact ⟨j + 1, by omega, HC2, rfl⟩
        · have hn := fun ty => run_next_any (P := Tryd.prog) W s j ty hlt
          obtain ⟨d1, d2, d3⟩ := decode_big s j hlt (by rw [hv2]; exact hv)
          obtain ⟨R, hR⟩ : ∃ R : Int, R = ((Utf8.decode s j).1 : Int) := ⟨_, rfl⟩
          obtain ⟨K, hK⟩ : ∃ K, K = (Utf8.decode s j).2 := ⟨_, rfl⟩
          have HR1 : Hid (128 ≤ R) := by show _ ≤ _; rw [hR]; omega
          have HR2 : Hid (Utf8.valid R = true) := by show _ = _; rw [hR]; exact d2
          simp only [← hR, ← hK] at hn
          clear hR hK d1 d2 d3
          have HV := hid (vfm_s (c := c) (p := p) (syl_f hlt (by rw [← HVE.out]; exact chB_big (by omega))))
          go_wp2_with (first | (go_at_call 40; ((refine (la_n hjn _).mono ?_); rintro ee w1 ⟨rfl, rfl⟩)) | (go_at_call 39; ((refine (cr_f_b HR1.out HR2.out _).mono ?_); rintro ee w1 ⟨rfl, hb1⟩)))
          go_ret
          exact ⟨by rw [HV.out]; rfl, by
            have hz1 := hb1.size
            exact chain (hBW.alloc hBW.size _) hb1 (by have := hBW.size; simp only [World.iter, World.size_alloc] at hz1 ⊢; omega)⟩

theorem vf_i {s : ByteArray} {c p : Int} (hz : s.size ≤ 1048576) (w : World) :
    Calls Tryd.prog 20 #[fmv s c p] w fun ee w' => ee = .returned (.bool (vfm s c p)) ∧ Below w.heap.size w w' := by
  by_cases h0 : s.size ≤ 40
  · by_cases h1 : 0 ≤ c
    · by_cases h2 : c ≤ 23
      · by_cases h3 : 0 ≤ p
        · by_cases h4 : p ≤ 7
          · exact vf_i5 h0 h1 h2 h3 h4 w
          · rw [vfm_p (s := s) (c := c) (Or.inr (by omega))]; exact vf_i4 h0 h1 h2 h3 (by omega) hz w
        · rw [vfm_p (s := s) (c := c) (Or.inl (by omega))]; exact vf_i3 h0 h1 h2 (by omega) hz w
      · rw [vfm_c (s := s) (p := p) (Or.inr (by omega))]; exact vf_i2 h0 h1 (by omega) hz w
    · rw [vfm_c (s := s) (p := p) (Or.inl (by omega))]; exact vf_i1 h0 (by omega) hz w
  · rw [vfm_z (c := c) (p := p) h0]; exact vf_i0 h0 hz w

end Go.Proofs.YtofclfgaekjonaaDoor
