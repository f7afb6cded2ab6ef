/- The law on MulOmega holds at every number and power. -/
import Derived.Test.YtdcmicianbihjaaOmegaS
import Derived.Test.YtdcmicianbihjaaOmegaIa
import Derived.Test.YtdcmicianbihjaaOmegaIb
import Derived.Test.YtdcmicianbihjaaOmegaIc
import Derived.Test.YtdcmicianbihjaaOmegaId
import Derived.Test.YtdcmicianbihjaaLwOneB
import Derived.Test.YtdcmicianbihjaaLawA
namespace Go.Proofs.Ytdcmicianbihjaa
open Go.RowKit RM
set_option linter.unusedVariables false
set_option linter.unusedSimpArgs false
theorem tm8 (k : Int) : -7 ≤ k.tmod 8 ∧ k.tmod 8 ≤ 7 := by
  have h := Int.natAbs_tmod k 8
  have h2 : (k.tmod 8).natAbs = k.natAbs % 8 := h
  omega
theorem tm8b (k : Int) : (k.tmod 8 + 8).tmod 8 = (k.tmod 8 + 8) % 8 := Int.tmod_eq_emod_of_nonneg (by have := tm8 k; omega)

theorem fnExactMulOmega_walk (a b c d : Int) (ha : I6 a) (hb : I6 b) (hc : I6 c) (hd : I6 d) (k : Int) (hk : I6 k) (w : World) :
    Calls Try.prog 11 #[rg a b c d, .int .i64 k] w fun e w' => e = .returned (.bool true) ∧ Below w.heap.size w w' := by
  cases h : vr a b c d
  · exact lwMulOmega _ _ _ _ _ _ _ _ _ _ (fun w => omega_s_f _ _ _ _ _ w h) (fun w => omega_i_f _ _ _ _ _ w h) w
  · by_cases g1 : -1000 ≤ k
    · by_cases g2 : k ≤ 1000
      · obtain ⟨t1, t2⟩ := tm8 k
        have hj8 : (k.tmod 8 + 8) % 8 = 0 ∨ (k.tmod 8 + 8) % 8 = 1 ∨ (k.tmod 8 + 8) % 8 = 2 ∨ (k.tmod 8 + 8) % 8 = 3 ∨ (k.tmod 8 + 8) % 8 = 4 ∨ (k.tmod 8 + 8) % 8 = 5 ∨ (k.tmod 8 + 8) % 8 = 6 ∨ (k.tmod 8 + 8) % 8 = 7 := by omega
        rcases hj8 with hj | hj | hj | hj | hj | hj | hj | hj
        · exact lwMulOmega _ _ _ _ _ _ _ _ _ _ (fun w => omega_s_0 _ _ _ _ _ w g1 g2 h t1 t2 hj (by rw [tm8b]; exact hj)) (fun w => omega_i_0 _ _ _ _ _ w t1 t2 hj (by rw [tm8b]; exact hj) g1 g2 h) w
        · exact lwMulOmega _ _ _ _ _ _ _ _ _ _ (fun w => omega_s_1 _ _ _ _ _ w g1 g2 h t1 t2 hj (by rw [tm8b]; exact hj)) (fun w => omega_i_1 _ _ _ _ _ w t1 t2 hj (by rw [tm8b]; exact hj) g1 g2 h) w
        · exact lwMulOmega _ _ _ _ _ _ _ _ _ _ (fun w => omega_s_2 _ _ _ _ _ w g1 g2 h t1 t2 hj (by rw [tm8b]; exact hj)) (fun w => omega_i_2 _ _ _ _ _ w t1 t2 hj (by rw [tm8b]; exact hj) g1 g2 h) w
        · exact lwMulOmega _ _ _ _ _ _ _ _ _ _ (fun w => omega_s_3 _ _ _ _ _ w g1 g2 h t1 t2 hj (by rw [tm8b]; exact hj)) (fun w => omega_i_3 _ _ _ _ _ w t1 t2 hj (by rw [tm8b]; exact hj) g1 g2 h) w
        · exact lwMulOmega _ _ _ _ _ _ _ _ _ _ (fun w => omega_s_4 _ _ _ _ _ w g1 g2 h t1 t2 hj (by rw [tm8b]; exact hj)) (fun w => omega_i_4 _ _ _ _ _ w t1 t2 hj (by rw [tm8b]; exact hj) g1 g2 h) w
        · exact lwMulOmega _ _ _ _ _ _ _ _ _ _ (fun w => omega_s_5 _ _ _ _ _ w g1 g2 h t1 t2 hj (by rw [tm8b]; exact hj)) (fun w => omega_i_5 _ _ _ _ _ w t1 t2 hj (by rw [tm8b]; exact hj) g1 g2 h) w
        · exact lwMulOmega _ _ _ _ _ _ _ _ _ _ (fun w => omega_s_6 _ _ _ _ _ w g1 g2 h t1 t2 hj (by rw [tm8b]; exact hj)) (fun w => omega_i_6 _ _ _ _ _ w t1 t2 hj (by rw [tm8b]; exact hj) g1 g2 h) w
        · exact lwMulOmega _ _ _ _ _ _ _ _ _ _ (fun w => omega_s_7 _ _ _ _ _ w g1 g2 h t1 t2 hj (by rw [tm8b]; exact hj)) (fun w => omega_i_7 _ _ _ _ _ w t1 t2 hj (by rw [tm8b]; exact hj) g1 g2 h) w
      · exact lwMulOmega _ _ _ _ _ _ _ _ _ _ (fun w => omega_s_hi _ _ _ _ _ w g1 (by simp; omega) h) (fun w => omega_i_hi _ _ _ _ _ w g1 (by omega) h) w
    · exact lwMulOmega _ _ _ _ _ _ _ _ _ _ (fun w => omega_s_lo _ _ _ _ _ w (by omega) h) (fun w => omega_i_lo _ _ _ _ _ w (by omega) h) w
end Go.Proofs.Ytdcmicianbihjaa
