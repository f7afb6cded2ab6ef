/- IsValidForm: the model. -/
import Derived.Test.YtofclfgaekjonaaDoorCfd
import Derived.Test.YtofclfgaekjonaaDoorVf
import Derived.Deep.Cut
import Derived.Deep.CutBlock
namespace Go.Proofs.YtofclfgaekjonaaDoor
open Go.RowKit RM
set_option linter.unusedVariables false
set_option linter.unusedSimpArgs false
attribute [local irreducible] World.setCell

/-- character v at place j -/
def chB (j v : Nat) : Bool := v == 72 || v == 83 || (v == 84 && j == 0)
def sb (s : ByteArray) (j : Nat) : Nat := (s.data.toList.getD j 0).toNat
def sylB (s : ByteArray) : Bool := (List.range s.size).all fun j => chB j (sb s j)
/-- a valid form -/
def vfm (s : ByteArray) (c p : Int) : Bool := sylB s && decide (s.size ≤ 40) && (decide (0 ≤ c) && decide (c ≤ 23)) && (decide (0 ≤ p) && decide (p ≤ 7))
abbrev fmv (s : ByteArray) (c p : Int) : Value := .agg #[.string s, .int .i64 c, .int .i64 p]
theorem sb_at {s : ByteArray} {j : Nat} (h : j < s.size) : sb s j = (s[j]'h).toNat := by
  unfold sb
  congr 1
  have h2 : j < s.data.toList.length := by rw [Array.length_toList]; exact h
  rw [List.getD_eq_getElem?_getD, List.getElem?_eq_getElem h2]
  rfl
theorem syl_t {s : ByteArray} (h : ∀ i, i < s.size → chB i (sb s i) = true) : sylB s = true := by
  unfold sylB
  rw [List.all_eq_true]
  intro j hj
  exact h j (List.mem_range.1 hj)
theorem syl_f {s : ByteArray} {i : Nat} (hi : i < s.size) (h : chB i (sb s i) = false) : sylB s = false := by
  cases hs : sylB s with
  | false => rfl
  | true =>
    unfold sylB at hs
    rw [List.all_eq_true] at hs
    have := hs i (List.mem_range.2 hi)
    rw [h] at this; cases this
theorem vfm_s {s : ByteArray} {c p : Int} (h : sylB s = false) : vfm s c p = false := by unfold vfm; rw [h]; rfl
theorem vfm_z {s : ByteArray} {c p : Int} (h : ¬ (s.size ≤ 40)) : vfm s c p = false := by unfold vfm; simp [h]
theorem vfm_c {s : ByteArray} {c p : Int} (h : c < 0 ∨ 23 < c) : vfm s c p = false := by
  unfold vfm; rcases h with h | h
  · have : decide (0 ≤ c) = false := by simp; omega
    rw [this]; simp
  · have : decide (c ≤ 23) = false := by simp; omega
    rw [this]; simp
theorem vfm_p {s : ByteArray} {c p : Int} (h : p < 0 ∨ 7 < p) : vfm s c p = false := by
  unfold vfm; rcases h with h | h
  · have : decide (0 ≤ p) = false := by simp; omega
    rw [this]; simp
  · have : decide (p ≤ 7) = false := by simp; omega
    rw [this]; simp
theorem vfm_t {s : ByteArray} {c p : Int} (h : sylB s = true) (hz : s.size ≤ 40) (h1 : 0 ≤ c) (h2 : c ≤ 23) (h3 : 0 ≤ p) (h4 : p ≤ 7) : vfm s c p = true := by
  unfold vfm; rw [h]; simp [hz, h1, h2, h3, h4]
attribute [irreducible] sylB vfm
theorem tab_a : ∀ v : Nat, v < 128 → decide (0 ≤ Lib.indexByte (ByteArray.mk #[84, 72, 83]).data.toList ((v : Int).toNat.toUInt8)) = chB 0 v := by decide +kernel
theorem tab_b : ∀ v : Nat, v < 128 → decide (0 ≤ Lib.indexByte (ByteArray.mk #[72, 83]).data.toList ((v : Int).toNat.toUInt8)) = chB 1 v := by decide +kernel
theorem chB_n {j v : Nat} (h : ¬ (j = 0)) : chB j v = chB 1 v := by unfold chB; simp [h]
set_option maxRecDepth 100000 in
set_option maxHeartbeats 2000000 in
theorem cr_t_a {v : Nat} {t : Bool} (hv : v < 128) (ht : chB 0 v = t) (w : World) :
    Calls Tryd.prog 39 #[.string (ByteArray.mk #[84, 72, 83]), .int .i32 (v : Int)] w fun ee w' => ee = .returned (.bool t) ∧ w = w' := by
  have h1 := tab_a v hv
  rw [ht] at h1
  have HT := hid h1
  clear h1 ht
  obtain ⟨x, hx⟩ : ∃ x, x = Lib.indexByte (ByteArray.mk #[84, 72, 83]).data.toList ((v : Int).toNat.toUInt8) := ⟨_, rfl⟩
  have HIR : Hid (∀ w, Calls Tryd.prog 58 #[.string (ByteArray.mk #[84, 72, 83]), .int .i32 (v : Int)] w fun ee w' => ee = .returned (.int .i64 x) ∧ w = w') := by
    intro w
    rw [hx]
    exact ir_a _ _ _ (by omega) (by omega)
  rw [← hx] at HT
  clear hx
  go_enter Tryd.func39, Tryd.ntmps39
  go_wp2_with ((go_at_call 58; ((refine (HIR.out _).mono ?_); rintro ee w1 ⟨rfl, rfl⟩)))
  go_ret
  exact ⟨by rw [← HT.out]; rfl, rfl⟩

set_option maxRecDepth 100000 in
set_option maxHeartbeats 2000000 in
theorem cr_f_a {r : Int} (h0 : 128 ≤ r) (hv : Utf8.valid r = true) (w : World) :
    Calls Tryd.prog 39 #[.string (ByteArray.mk #[84, 72, 83]), .int .i32 r] w fun ee w' => ee = .returned (.bool false) ∧ Below w.heap.size w w' := by
  have HIR : Hid (Calls Tryd.prog 58 #[.string (ByteArray.mk #[84, 72, 83]), .int .i32 r] w fun ee w' => ee = .returned (.int .i64 (-1)) ∧ Below w.heap.size w w') := by
    by_cases h : r = 65533
    · subst h; exact ir_e_a w
    · rw [validRune_eq] at hv
      exact ir_b_a r w h0 (of_decide_eq_true hv) h
  clear hv
  go_enter Tryd.func39, Tryd.ntmps39
  go_wp2_with ((go_at_call 58; ((refine HIR.out.mono ?_); rintro ee w1 ⟨rfl, hb1⟩)))
  go_ret
  exact ⟨rfl, hb1⟩

set_option maxRecDepth 100000 in
set_option maxHeartbeats 2000000 in
theorem cr_t_b {v : Nat} {t : Bool} (hv : v < 128) (ht : chB 1 v = t) (w : World) :
    Calls Tryd.prog 39 #[.string (ByteArray.mk #[72, 83]), .int .i32 (v : Int)] w fun ee w' => ee = .returned (.bool t) ∧ w = w' := by
  have h1 := tab_b v hv
  rw [ht] at h1
  have HT := hid h1
  clear h1 ht
  obtain ⟨x, hx⟩ : ∃ x, x = Lib.indexByte (ByteArray.mk #[72, 83]).data.toList ((v : Int).toNat.toUInt8) := ⟨_, rfl⟩
  have HIR : Hid (∀ w, Calls Tryd.prog 58 #[.string (ByteArray.mk #[72, 83]), .int .i32 (v : Int)] w fun ee w' => ee = .returned (.int .i64 x) ∧ w = w') := by
    intro w
    rw [hx]
    exact ir_a _ _ _ (by omega) (by omega)
  rw [← hx] at HT
  clear hx
  go_enter Tryd.func39, Tryd.ntmps39
  go_wp2_with ((go_at_call 58; ((refine (HIR.out _).mono ?_); rintro ee w1 ⟨rfl, rfl⟩)))
  go_ret
  exact ⟨by rw [← HT.out]; rfl, rfl⟩

set_option maxRecDepth 100000 in
set_option maxHeartbeats 2000000 in
theorem cr_f_b {r : Int} (h0 : 128 ≤ r) (hv : Utf8.valid r = true) (w : World) :
    Calls Tryd.prog 39 #[.string (ByteArray.mk #[72, 83]), .int .i32 r] w fun ee w' => ee = .returned (.bool false) ∧ Below w.heap.size w w' := by
  have HIR : Hid (Calls Tryd.prog 58 #[.string (ByteArray.mk #[72, 83]), .int .i32 r] w fun ee w' => ee = .returned (.int .i64 (-1)) ∧ Below w.heap.size w w') := by
    by_cases h : r = 65533
    · subst h; exact ir_e_b w
    · rw [validRune_eq] at hv
      exact ir_b_b r w h0 (of_decide_eq_true hv) h
  clear hv
  go_enter Tryd.func39, Tryd.ntmps39
  go_wp2_with ((go_at_call 58; ((refine HIR.out.mono ?_); rintro ee w1 ⟨rfl, hb1⟩)))
  go_ret
  exact ⟨rfl, hb1⟩

set_option maxRecDepth 100000 in
set_option maxHeartbeats 8000000 in
theorem vl_s {s : ByteArray} {c p : Int} (hz : s.size ≤ 1048576) (w : World) :
    Calls Tryd.prog 18 #[fmv s c p] w fun ee w' => ee = .returned (.bool (vfm s c p)) ∧ Below w.heap.size w w' := by
  have hz2 : (s.size : Int) ≤ 1048576 := by omega
  go_enter Tryd.func18, Tryd.ntmps18
  go_upto_region 1 with (fail)
  obtain ⟨W, hW⟩ : ∃ W : World, W = w.alloc (.cells #[.string s, .int .i64 c, .int .i64 p] 30) := ⟨_, rfl⟩
  have hB : Below w.heap.size w W := by rw [hW]; exact (Below.refl _ _).alloc (Nat.le_refl _) _
  have k0 : W.cell? ⟨w.heap.size, 0, none⟩ = some (.string s) := by rw [hW]; first | rfl | (simp; done)
  have k1 : W.cell? ⟨w.heap.size, 1, none⟩ = some (.int .i64 c) := by rw [hW]; first | rfl | (simp; done)
  have k2 : W.cell? ⟨w.heap.size, 2, none⟩ = some (.int .i64 p) := by rw [hW]; first | rfl | (simp; done)
  rw [← hW]
  clear hW
  go_wp2_with (fail)
  go_loopg [3] s.size (fun q s3 wr => ∃ j : Nat, j + q = s.size ∧ s3 = .int .i64 (j : Int) ∧ Hid (∀ i, i < j → chB i (sb s i) = true) ∧ W = wr)
  case atStart => exact ⟨0, by omega, rfl, fun i hi => absurd hi (Nat.not_lt_zero i), rfl⟩
  case round =>
    obtain ⟨j, hj, rfl, HC, rfl⟩ := hrel
    cases gk with
    | zero =>
      obtain rfl : j = s.size := by omega
      have HS := hid (syl_t HC.out)
      clear HC
      by_cases h40 : s.size ≤ 40
      · have h41 : (s.size : Int) ≤ 40 := by omega
        by_cases hc1 : 0 ≤ c
        · by_cases hc2 : c ≤ 23
          · by_cases hp1 : 0 ≤ p
            · by_cases hp2 : p ≤ 7
              · have HV := hid (vfm_t HS.out h40 hc1 hc2 hp1 hp2)
                go_wp2_with ((go_at_call 36; first | ((with_reducible refine (in_t (by assumption) (by assumption) _).mono ?_); rintro ee w1 ⟨rfl, rfl⟩) | ((with_reducible refine (in_f (by first | (exact Or.inl (by assumption)) | (exact Or.inr (by assumption))) _).mono ?_); rintro ee w1 ⟨rfl, rfl⟩)))
                go_ret
                exact ⟨by rw [HV.out]; rfl, hB⟩
              · have hp3 : 7 < p := by omega
                have HV := hid (vfm_p (s := s) (c := c) (Or.inr hp3))
                go_wp2_with ((go_at_call 36; first | ((with_reducible refine (in_t (by assumption) (by assumption) _).mono ?_); rintro ee w1 ⟨rfl, rfl⟩) | ((with_reducible refine (in_f (by first | (exact Or.inl (by assumption)) | (exact Or.inr (by assumption))) _).mono ?_); rintro ee w1 ⟨rfl, rfl⟩)))
                go_ret
                exact ⟨by rw [HV.out]; rfl, hB⟩
            · have hp3 : p < 0 := by omega
              have HV := hid (vfm_p (s := s) (c := c) (Or.inl hp3))
              go_wp2_with ((go_at_call 36; first | ((with_reducible refine (in_t (by assumption) (by assumption) _).mono ?_); rintro ee w1 ⟨rfl, rfl⟩) | ((with_reducible refine (in_f (by first | (exact Or.inl (by assumption)) | (exact Or.inr (by assumption))) _).mono ?_); rintro ee w1 ⟨rfl, rfl⟩)))
              go_ret
              exact ⟨by rw [HV.out]; rfl, hB⟩
          · have hc3 : 23 < c := by omega
            have HV := hid (vfm_c (s := s) (p := p) (Or.inr hc3))
            go_wp2_with ((go_at_call 36; first | ((with_reducible refine (in_t (by assumption) (by assumption) _).mono ?_); rintro ee w1 ⟨rfl, rfl⟩) | ((with_reducible refine (in_f (by first | (exact Or.inl (by assumption)) | (exact Or.inr (by assumption))) _).mono ?_); rintro ee w1 ⟨rfl, rfl⟩)))
            go_ret
            exact ⟨by rw [HV.out]; rfl, hB⟩
        · have hc3 : c < 0 := by omega
          have HV := hid (vfm_c (s := s) (p := p) (Or.inl hc3))
          go_wp2_with ((go_at_call 36; first | ((with_reducible refine (in_t (by assumption) (by assumption) _).mono ?_); rintro ee w1 ⟨rfl, rfl⟩) | ((with_reducible refine (in_f (by first | (exact Or.inl (by assumption)) | (exact Or.inr (by assumption))) _).mono ?_); rintro ee w1 ⟨rfl, rfl⟩)))
          go_ret
          exact ⟨by rw [HV.out]; rfl, hB⟩
      · have h41 : ¬ ((s.size : Int) ≤ 40) := by omega
        have HV := hid (vfm_z (c := c) (p := p) h40)
        go_wp2_with (fail)
        go_ret
        exact ⟨by rw [HV.out]; rfl, hB⟩
    | succ m =>
      have hlt : j < s.size := by omega
      have hlt2 : (j : Int) < (s.size : Int) := by omega
      have hv := sb_at hlt
      obtain ⟨v, hve⟩ : ∃ v, v = sb s j := ⟨_, rfl⟩
      rw [← hve] at hv
      have HVE := hid hve
      have hv2 : (s[j]'hlt).toNat = v := hv.symm
      clear hv hve
      cases hch : chB j v
      · have HV := hid (vfm_s (c := c) (p := p) (syl_f hlt (by rw [← HVE.out]; exact hch)))
        have hn1 : ¬ ((v : Int) = 72) := by intro h; have : v = 72 := by omega
                                            subst this; simp [chB] at hch
        have hn2 : ¬ ((v : Int) = 83) := by intro h; have : v = 83 := by omega
                                            subst this; simp [chB] at hch
        have hm1 : ((v : Int) != 72) = true := by simpa using hn1
        have hm2 : ((v : Int) != 83) = true := by simpa using hn2
        by_cases h84 : v = 84
        · have hj0 : 0 < j := by
            subst h84; rcases Nat.eq_zero_or_pos j with h | h
            · subst h; simp [chB] at hch
            · exact h
          have hj1 : (0 : Int) < (j : Int) := by omega
          have h85 : (v : Int) = 84 := by omega
          clear hch h84
          go_wp2_with (fail)
          go_ret
          exact ⟨by rw [HV.out]; rfl, hB⟩
        · have h85 : ¬ ((v : Int) = 84) := by omega
          have hm3 : ((v : Int) != 84) = true := by simpa using h85
          clear hch h84
          go_wp2_with (fail)
          go_ret
          exact ⟨by rw [HV.out]; rfl, hB⟩
      · have HC2 : Hid (∀ i, i < j + 1 → chB i (sb s i) = true) := by
          intro i hi
          rcases Nat.lt_succ_iff_lt_or_eq.1 hi with h | h
          · exact HC.out i h
          · subst h; rw [← HVE.out]; exact hch
        have h3 : v = 72 ∨ v = 83 ∨ (v = 84 ∧ j = 0) := by unfold chB at hch; simpa [or_assoc] using hch
        clear hch
        rcases h3 with h | h | ⟨h, h0⟩
        · have h1 : (v : Int) = 72 := by omega
          clear h
          go_wp2_with (fail)
          go_roundg m
          case measure => omega
          case rel => exact ⟨j + 1, by omega, by go_num, HC2, rfl⟩
        · have h1 : (v : Int) = 83 := by omega
          clear h
          go_wp2_with (fail)
          go_roundg m
          case measure => omega
          case rel => exact ⟨j + 1, by omega, by go_num, HC2, rfl⟩
        · have h1 : (v : Int) = 84 := by omega
          clear h
          subst h0
          go_wp2_with (fail)
          go_roundg m
          case measure => omega
          case rel => exact ⟨1, by omega, by first | rfl | go_num, HC2, rfl⟩

end Go.Proofs.YtofclfgaekjonaaDoor
