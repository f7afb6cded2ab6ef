/- The law on DivRing holds at every two numbers. -/
import Derived.Test.YtdcmicianbihjaaDivI
import Derived.Test.YtdcmicianbihjaaDivJ
import Derived.Test.YtdcmicianbihjaaDivL
import Derived.Test.YtdcmicianbihjaaLwDivRing
import Derived.Test.YtdcmicianbihjaaMulS
import Derived.Test.YtdcmicianbihjaaMulIt
import Derived.Test.YtdcmicianbihjaaMulIo
import Derived.Test.YtdcmicianbihjaaLawA
namespace Go.Proofs.Ytdcmicianbihjaa
open Go.RowKit RM
set_option linter.unusedVariables false
set_option linter.unusedSimpArgs false

/-- both products, whatever the numbers: one answer -/
theorem mul_both (a b c d p q r s : Int) : ∃ (e0 e1 e2 e3 : Int) (ok : Bool), (∀ w : World, Calls Try.prog 21 #[rg a b c d, rg p q r s] w fun e w' => e = .returned (rt e0 e1 e2 e3 ok) ∧ Below w.heap.size w w') ∧ (∀ w : World, Calls Try.prog 20 #[rg a b c d, rg p q r s] w fun e w' => e = .returned (rt e0 e1 e2 e3 ok) ∧ Below w.heap.size w w') ∧ vr e0 e1 e2 e3 = true ∧ (ok = false → e0 = 0 ∧ e1 = 0 ∧ e2 = 0 ∧ e3 = 0) := by
  cases h : vr a b c d
  · exact ⟨0, 0, 0, 0, false, fun w => mul_s_f1 _ _ _ _ _ _ _ _ w h, fun w => mul_i_f1 _ _ _ _ _ _ _ _ w h, by decide, fun _ => ⟨rfl, rfl, rfl, rfl⟩⟩
  · cases k : vr p q r s
    · exact ⟨0, 0, 0, 0, false, fun w => mul_s_f2 _ _ _ _ _ _ _ _ w h k, fun w => mul_i_f2 _ _ _ _ _ _ _ _ w h k, by decide, fun _ => ⟨rfl, rfl, rfl, rfl⟩⟩
    · cases o : vr (m0 a b c d p q r s) (m1 a b c d p q r s) (m2 a b c d p q r s) (m3 a b c d p q r s)
      · exact ⟨0, 0, 0, 0, false, fun w => mul_s_o _ _ _ _ _ _ _ _ w h k o, fun w => mul_i_o _ _ _ _ _ _ _ _ w h k o, by decide, fun _ => ⟨rfl, rfl, rfl, rfl⟩⟩
      · exact ⟨_, _, _, _, true, fun w => mul_s_t _ _ _ _ _ _ _ _ w h k o, fun w => mul_i_t _ _ _ _ _ _ _ _ w h k o, o, fun x => by cases x⟩

theorem quo_ok {g0 g1 g2 g3 n : Int} (h : vr g0 g1 g2 g3 = true) : vr (g0.tdiv n) (g1.tdiv n) (g2.tdiv n) (g3.tdiv n) = true := by
  obtain ⟨h0, h1, h2, h3⟩ := vr_iff.1 h
  exact vr_iff.2 ⟨tdiv_bd h0, tdiv_bd h1, tdiv_bd h2, tdiv_bd h3⟩

theorem fnExactDivRing_walk (a b c d : Int) (ha : I6 a) (hb : I6 b) (hc : I6 c) (hd : I6 d) (p q r s : Int) (hp : I6 p) (hq : I6 q) (hr : I6 r) (hs : I6 s) (w : World) :
    Calls Try.prog 16 #[rg a b c d, rg p q r s] w fun e w' => e = .returned (.bool true) ∧ Below w.heap.size w w' := by
  clear ha hb hc hd hp hq hr hs
  cases hy : vr p q r s
  · exact lwDivRing _ _ _ _ _ _ _ _ _ _ _ _ _ (fun w => div_s_0 _ _ _ _ _ _ _ _ w (fun w => abs_s_f _ _ _ _ w hy)) (fun w => div_i_0 _ _ _ _ _ _ _ _ w (fun w => abs_i_f _ _ _ _ w hy)) w
  · cases hw : vr (uu p q r s) (vv p q r s) 0 (-vv p q r s)
    · exact lwDivRing _ _ _ _ _ _ _ _ _ _ _ _ _ (fun w => div_s_0 _ _ _ _ _ _ _ _ w (fun w => abs_s_o _ _ _ _ w hy hw)) (fun w => div_i_0 _ _ _ _ _ _ _ _ w (fun w => abs_i_o _ _ _ _ w hy hw)) w
    · have hS := fun w => abs_s_t p q r s w hy hw
      have hI := fun w => abs_i_t p q r s w hy hw
      obtain ⟨hu, hv⟩ := uv_iff.1 hw
      by_cases h0 : p = 0 ∧ q = 0 ∧ r = 0 ∧ s = 0
      · obtain ⟨rfl, rfl, rfl, rfl⟩ := h0
        have e1 : uu 0 0 0 0 = 0 := by simp [uu]
        have e2 : vv 0 0 0 0 = 0 := by simp [vv]
        rw [e1, e2] at hS hI
        exact lwDivRing _ _ _ _ _ _ _ _ _ _ _ _ _ (fun w => div_s_1 _ _ _ _ _ _ _ _ _ w hS) (fun w => div_i_1 _ _ _ _ w hI) w
      · have hne : (p == 0 && (q == 0 && (r == 0 && s == 0))) = false := by
          rw [Bool.eq_false_iff]
          intro h
          simp only [Bool.and_eq_true, beq_iff_eq] at h
          exact h0 h
        have hup : 0 < uu p q r s := by
          unfold uu
          refine sum4_pos ?_
          by_cases z0 : p = 0
          · by_cases z1 : q = 0
            · by_cases z2 : r = 0
              · by_cases z3 : s = 0
                · exact absurd ⟨z0, z1, z2, z3⟩ h0
                · exact .inr (.inr (.inr z3))
              · exact .inr (.inr (.inl z2))
            · exact .inr (.inl z1)
          · exact .inl z0
        have hu0 : (uu p q r s == 0) = false := by
          rw [beq_eq_false_iff_ne]; omega
        have hn : (uu p q r s * uu p q r s - 2 * vv p q r s * vv p q r s) ≠ 0 := by
          have h := root_ne (u := uu p q r s) (v := vv p q r s) (by omega)
          rwa [← Int.mul_assoc] at h
        obtain ⟨e0, e1, e2, e3, ok1, mS, mI, _, z1⟩ := mul_both a b c d p (-s) (-r) (-q)
        obtain ⟨g0, g1, g2, g3, ok2, kS, kI, hg, z2⟩ := mul_both e0 e1 e2 e3 (uu p q r s) (-vv p q r s) 0 (vv p q r s)
        have hs : ∀ res, _ → ∀ w, _ := fun res hres w => div_s_g a b c d p q r s (uu p q r s) (vv p q r s) e0 e1 e2 e3 g0 g1 g2 g3 ok1 ok2 res w hu hv hu0 hn hg hres hS hy mS kS
        cases ok1
        · obtain ⟨rfl, rfl, rfl, rfl⟩ := z1 rfl
          exact lwDivRing _ _ _ _ _ _ _ _ 0 0 0 0 false (hs _ ⟨fun x => by simp at x, fun _ => rfl⟩) (fun w => div_i_2 _ _ _ _ _ _ _ _ _ _ w hne hI hy mI) w
        · cases ok2
          · obtain ⟨rfl, rfl, rfl, rfl⟩ := z2 rfl
            exact lwDivRing _ _ _ _ _ _ _ _ 0 0 0 0 false (hs _ ⟨fun x => by simp at x, fun _ => rfl⟩) (fun w => div_i_3 _ _ _ _ _ _ _ _ _ _ _ _ _ _ w hu hv hne hI hy mI kI) w
          · cases hrem : (g0.tmod (uu p q r s * uu p q r s - 2 * vv p q r s * vv p q r s) == 0 && (g1.tmod (uu p q r s * uu p q r s - 2 * vv p q r s * vv p q r s) == 0 && (g2.tmod (uu p q r s * uu p q r s - 2 * vv p q r s * vv p q r s) == 0 && g3.tmod (uu p q r s * uu p q r s - 2 * vv p q r s * vv p q r s) == 0)))
            · exact lwDivRing _ _ _ _ _ _ _ _ 0 0 0 0 false (hs _ ⟨fun x => by rw [hrem] at x; simp at x, fun _ => rfl⟩) (fun w => div_i_4 _ _ _ _ _ _ _ _ _ _ _ _ _ _ _ _ _ _ w hu hv hne hg hI hy mI kI hn hrem) w
            · exact lwDivRing _ _ _ _ _ _ _ _ _ _ _ _ true (hs _ ⟨fun _ => rfl, fun x => by rw [hrem] at x; simp at x⟩) (fun w => div_i_5 _ _ _ _ _ _ _ _ _ _ _ _ _ _ _ _ _ _ w hu hv hne hg hI hy mI kI hn hrem (quo_ok hg)) w
end Go.Proofs.Ytdcmicianbihjaa
