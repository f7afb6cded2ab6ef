/- ParseForm: both answer alike. -/
import Derived.Test.YtofclfgaekjonaaDoorAl
import Derived.Test.YtofclfgaekjonaaDoorPz1
import Derived.Test.YtofclfgaekjonaaDoorPz2
import Derived.Test.YtofclfgaekjonaaDoorFn5
namespace Go.Proofs.YtofclfgaekjonaaDoor
open Go.RowKit RM
set_option linter.unusedVariables false
set_option linter.unusedSimpArgs false
attribute [local irreducible] World.setCell

theorem sylB_all {s : ByteArray} (h : sylB s = true) : ∀ b ∈ s.data.toList, b.toNat = 72 ∨ b.toNat = 83 ∨ b.toNat = 84 := by
  intro b hb
  obtain ⟨j, hj, he⟩ := List.getElem_of_mem hb
  have hj2 : j < s.size := by rw [Array.length_toList] at hj; exact hj
  unfold sylB at h
  rw [List.all_eq_true] at h
  have h1 := h j (List.mem_range.2 hj2)
  rw [sb_at hj2] at h1
  have h2 : (s[j]'hj2).toNat = b.toNat := by rw [← he]; rfl
  rw [h2] at h1
  unfold chB at h1
  simp only [Bool.or_eq_true, Bool.and_eq_true, beq_iff_eq] at h1
  omega
theorem orS_32 {s : ByteArray} (h : sylB s = true) : ∀ b ∈ (orS s).data.toList, (b.toNat : Int) ≠ 32 := by
  unfold orS
  split
  · intro b hb
    have : b = 45 := by simpa using hb
    subst this
    decide
  · intro b hb
    have := sylB_all h b hb
    omega
theorem syl_45 {s : ByteArray} (h : sylB s = true) : ¬ (s = ByteArray.mk #[45]) := by
  intro e
  have := sylB_all h 45 (by rw [e]; simp)
  revert this
  decide
theorem jac_data (a b c : ByteArray) : (jac a b c 2).data.toList = a.data.toList ++ 32 :: (b.data.toList ++ 32 :: c.data.toList) := by
  unfold jac
  simp [ByteArray.data_append]
theorem jac1_data (b c : ByteArray) : (jac b c c 1).data.toList = b.data.toList ++ 32 :: c.data.toList := by
  unfold jac
  simp [ByteArray.data_append]
theorem spl_yes {x y z : ByteArray} (hx : ∀ b ∈ x.data.toList, (b.toNat : Int) ≠ 32) (hy : ∀ b ∈ y.data.toList, (b.toNat : Int) ≠ 32) (hz : ∀ b ∈ z.data.toList, (b.toNat : Int) ≠ 32) : spl (jac x y z 2) 32 = [x, y, z] := by
  have h := spl_lsp (jac x y z 2) 32
  have st : ∀ (x : UInt8) (r : List UInt8) (p : List UInt8 × List (List UInt8)), (x.toNat : Int) = 32 → lsp 32 (x :: r) p = lsp 32 r ([], p.2 ++ [p.1]) := fun x r p h => by rw [lsp, if_pos h]
  rw [jac_data, lsp_app, lsp_none hx, st _ _ _ rfl, lsp_app, lsp_none hy, st _ _ _ rfl, lsp_none hz] at h
  refine map_inj _ _ ?_
  rw [h]
  simp
theorem cut_two {s x r : ByteArray} (hx : ∀ b ∈ x.data.toList, (b.toNat : Int) ≠ 32) (hD : s.data.toList = x.data.toList ++ 32 :: r.data.toList) (hs : s.size ≤ 1048576) (W : World) : Calls Tryd.prog 34 #[.string s, .string ⟨#[32]⟩] W fun ee w' => ee = .returned (.tuple #[.string x, .string r, .bool true]) ∧ Below W.heap.size W w' := by
  have h := idx32 hx r.data.toList
  rw [← hD] at h
  have hl : s.size = s.data.toList.length := Array.length_toList.symm
  have hi : x.data.toList.length < s.size := by
    rw [hl, hD]; simp
  have k := fun w => cut_of (fun w => cut_hit0 h hi hs w) w
  have e1 : s.extract 0 x.data.toList.length = x := ba_ext (by rw [Lib.extract_data, hD]; simp)
  have e2 : s.extract (x.data.toList.length + 1) s.size = r := ba_ext (by
    rw [Lib.extract_to_end, hD, List.drop_append]
    simp)
  rw [e1, e2] at k
  exact k W
theorem vfm_parts {s : ByteArray} {c p : Int} (hv : vfm s c p = true) : ∃ q r : Nat, c = (q : Int) ∧ p = (r : Int) ∧ q ≤ 23 ∧ r ≤ 7 ∧ s.size ≤ 40 ∧ sylB s = true := by
  have h1 := hv
  unfold vfm at h1
  simp only [Bool.and_eq_true, decide_eq_true_eq] at h1
  obtain ⟨⟨⟨hy, h40⟩, hc0, hc1⟩, hp0, hp1⟩ := h1
  obtain ⟨q, rfl⟩ := Int.eq_ofNat_of_zero_le hc0
  obtain ⟨r, rfl⟩ := Int.eq_ofNat_of_zero_le hp0
  exact ⟨q, r, rfl, rfl, by omega, by omega, h40, hy⟩
/-- what a call answers: a form and whether there is one -/
def Ans (f : FuncId) (s s0 : ByteArray) (c p : Int) (t : Bool) (W : World) : Prop :=
  Calls Tryd.prog f #[.string s] W fun e w' => e = .returned (.tuple #[fmv s0 c p, .bool t]) ∧ Below W.heap.size W w'
theorem pf_both {s : ByteArray} (hs : s.size ≤ 1048576) {w : World} (hE : Ers w) : ∃ (s0 : ByteArray) (c p : Int) (t : Bool),
    (∀ W, Ans 15 s s0 c p t W) ∧ (∀ W, Below w.heap.size w W → Ans 16 s s0 c p t W) := by
  by_cases hx : ∃ (s0 : ByteArray) (q r : Nat), q ≤ 23 ∧ r ≤ 7 ∧ s0.size ≤ 40 ∧ sylB s0 = true ∧ vfm s0 (q : Int) (r : Int) = true ∧ ffm s0 q r = s
  · obtain ⟨s0, q, r, hq, hr, h40, hy, hv, rfl⟩ := hx
    refine ⟨s0, q, r, true, ?_, ?_⟩
    · intro W
      have hL : spl (ffm s0 q r) 32 = [orS s0, dg2 q, dg2 r] := spl_yes (orS_32 hy) (dg2_32 hq) (dg2_32 (q := r) (by omega))
      have hV := fun W => vl_s (s := s0) (c := (q : Int)) (p := (r : Int)) (by omega) W
      rw [hv] at hV
      have hT := fun W => lt_t h40 hq hr W
      by_cases h0 : s0 = ByteArray.mk #[]
      · subst h0
        exact psf_td (T := (ByteArray.mk #[])) (x := (ByteArray.mk #[])) hs hL (rd_yes2 hq) (rd_yes2 (q := r) (by omega)) hV hT
      · have e : orS s0 = s0 := by unfold orS; rw [if_neg h0]
        rw [e] at hL
        exact psf_t (T := (ByteArray.mk #[])) hs hL (rd_yes2 hq) (rd_yes2 (q := r) (by omega)) hV hT (syl_45 hy)
    · intro W hW
      have hD : (ffm s0 q r).data.toList = (orS s0).data.toList ++ 32 :: (jac (dg2 q) (dg2 r) (dg2 r) 1).data.toList := by
        unfold ffm; rw [jac_data, jac1_data]
      have g2 := @dg2_size q
      have g3 := @dg2_size r
      have hj : (jac (dg2 q) (dg2 r) (dg2 r) 1).size ≤ 1048576 := by show (dg2 q ++ ⟨#[32]⟩ ++ dg2 r).size ≤ _; rw [bsz, bsz, spz]; omega
      have hC1 := fun W => cut_two (orS_32 hy) hD hs W
      have hC2 := fun W => cut_two (dg2_32 hq) (jac1_data (dg2 q) (dg2 r)) hj W
      have hA1 : ∀ V, Below W.heap.size W V → Calls Tryd.prog 35 #[.string (dg2 q)] V fun ee w' => ∃ ev, ee = .returned (.tuple #[.int .i64 (q : Int), ev]) ∧ Below V.heap.size V w' := fun V _ => (at_ok (by omega) (at_yes2 hq) V).mono fun e w' ⟨he, hb⟩ => ⟨_, he, hb⟩
      have hA2 : ∀ V, Below W.heap.size W V → Calls Tryd.prog 35 #[.string (dg2 r)] V fun ee w' => ∃ ev, ee = .returned (.tuple #[.int .i64 (r : Int), ev]) ∧ Below V.heap.size V w' := fun V _ => (at_ok (by omega) (at_yes2 (q := r) (by omega)) V).mono fun e w' ⟨he, hb⟩ => ⟨_, he, hb⟩
      have hF := fun W => ff_t h40 hq hr hv W
      by_cases h0 : s0 = ByteArray.mk #[]
      · subst h0
        exact pfi_td (T := (ByteArray.mk #[])) (x := (ByteArray.mk #[])) hC1 hC2 hA1 hA2 hF
      · have e : orS s0 = s0 := by unfold orS; rw [if_neg h0]
        rw [e] at hC1
        exact pfi_t (T := (ByteArray.mk #[])) hC1 hC2 hA1 hA2 hF (syl_45 hy)
  · have hno : ∀ (s0 : ByteArray) (c p : Int), vfm s0 c p = true → ∃ q r : Nat, c = (q : Int) ∧ p = (r : Int) ∧ q ≤ 23 ∧ r ≤ 7 ∧ s0.size ≤ 40 ∧ ¬ (ffm s0 q r = s) := by
      intro s0 c p hv
      obtain ⟨q, r, rfl, rfl, hq, hr, h40, hy⟩ := vfm_parts hv
      exact ⟨q, r, rfl, rfl, hq, hr, h40, fun e => hx ⟨s0, q, r, hq, hr, h40, hy, hv, e⟩⟩
    refine ⟨ByteArray.mk #[], 0, 0, false, ?_, ?_⟩
    · intro W
      by_cases hl : (spl s 32).length ≠ 3
      · exact psf_len hs rfl hl
      · obtain ⟨x, y, z, hL⟩ : ∃ x y z, spl s 32 = [x, y, z] := by
          match h9 : spl s 32, hl with
          | [x, y, z], _ => exact ⟨x, y, z, rfl⟩
          | [], h => exact absurd (by simp) h
          | [_], h => exact absurd (by simp) h
          | [_, _], h => exact absurd (by simp) h
          | _ :: _ :: _ :: _ :: _, h => exact absurd (by simp) h
        have hxz : x.size ≤ s.size := spl_size (k := 32) (by rw [hL]; simp)
        obtain ⟨v1, hR1⟩ := rd_any2 y
        obtain ⟨v2, hR2⟩ := rd_any2 z
        by_cases h45 : x = ByteArray.mk #[45]
        · subst h45
          have hV := fun W => vl_s (s := ByteArray.mk #[]) (c := v1) (p := v2) (by decide) W
          rcases hv : vfm (ByteArray.mk #[]) v1 v2 with _ | _
          · rw [hv] at hV
            exact psf_fd (T := s) (x := s) hs hL hR1 hR2 hV
          · rw [hv] at hV
            obtain ⟨q, r, rfl, rfl, hq, hr, h40, hne⟩ := hno _ _ _ hv
            exact psf_nd (x := s) hs hL hR1 hR2 hV (fun W => lt_t h40 hq hr W) hne
        · have hV := fun W => vl_s (s := x) (c := v1) (p := v2) (by omega) W
          rcases hv : vfm x v1 v2 with _ | _
          · rw [hv] at hV
            exact psf_f (T := s) hs hL hR1 hR2 hV h45
          · rw [hv] at hV
            obtain ⟨q, r, rfl, rfl, hq, hr, h40, hne⟩ := hno _ _ _ hv
            exact psf_n hs hL hR1 hR2 hV (fun W => lt_t h40 hq hr W) h45 hne
    · intro W hW
      obtain ⟨x, r0, k1, hx1, hr1, hC1⟩ := cut_any hs
      obtain ⟨y, z, k2, hy1, hz1, hC2⟩ := cut_any (s := r0) (by omega)
      obtain ⟨v1, _, hA1⟩ := at_any (x := y) (by omega)
      obtain ⟨v2, _, hA2⟩ := at_any (x := z) (by omega)
      have hB1 := fun V (hV : Below W.heap.size W V) => hA1 V ((hE.below hW).below hV)
      have hB2 := fun V (hV : Below W.heap.size W V) => hA2 V ((hE.below hW).below hV)
      by_cases h45 : x = ByteArray.mk #[45]
      · subst h45
        rcases hv : vfm (ByteArray.mk #[]) v1 v2 with _ | _
        · exact pfi_fd (x := s) hC1 hC2 hB1 hB2 (fun W => ff_f (by decide) hv W)
        · obtain ⟨q, r, rfl, rfl, hq, hr, h40, hne⟩ := hno _ _ _ hv
          exact pfi_nd (x := s) hC1 hC2 hB1 hB2 (fun W => ff_t h40 hq hr hv W) hne
      · rcases hv : vfm x v1 v2 with _ | _
        · exact pfi_f hC1 hC2 hB1 hB2 (fun W => ff_f (by omega) hv W) h45
        · obtain ⟨q, r, rfl, rfl, hq, hr, h40, hne⟩ := hno _ _ _ hv
          exact pfi_n hC1 hC2 hB1 hB2 (fun W => ff_t h40 hq hr hv W) h45 hne
end Go.Proofs.YtofclfgaekjonaaDoor
