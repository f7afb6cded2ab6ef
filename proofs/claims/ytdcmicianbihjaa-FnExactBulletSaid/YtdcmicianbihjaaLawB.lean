/- The laws on Conjugate, Bullet and MulRootTwo hold at every number. -/
import Derived.Test.YtdcmicianbihjaaLwOneA
import Derived.Test.YtdcmicianbihjaaRootA
import Derived.Test.YtdcmicianbihjaaLawA
namespace Go.Proofs.Ytdcmicianbihjaa
open Go.RowKit RM
set_option linter.unusedVariables false
set_option linter.unusedSimpArgs false

theorem fnExactConjugate_walk (a b c d : Int) (ha : I6 a) (hb : I6 b) (hc : I6 c) (hd : I6 d) (w : World) :
    Calls Try.prog 9 #[rg a b c d] w fun e w' => e = .returned (.bool true) ∧ Below w.heap.size w w' := by
  cases h : vr a b c d
  · exact lwConjugate _ _ _ _ _ _ _ _ _ (fun w => conj_s_f _ _ _ _ w h) (fun w => conj_i_f _ _ _ _ w h) w
  · exact lwConjugate _ _ _ _ _ _ _ _ _ (fun w => conj_s_t _ _ _ _ w h) (fun w => conj_i_t _ _ _ _ w h) w

theorem fnExactBullet_walk (a b c d : Int) (ha : I6 a) (hb : I6 b) (hc : I6 c) (hd : I6 d) (w : World) :
    Calls Try.prog 10 #[rg a b c d] w fun e w' => e = .returned (.bool true) ∧ Below w.heap.size w w' := by
  cases h : vr a b c d
  · exact lwBullet _ _ _ _ _ _ _ _ _ (fun w => bul_s_f _ _ _ _ w h) (fun w => bul_i_f _ _ _ _ w h) w
  · exact lwBullet _ _ _ _ _ _ _ _ _ (fun w => bul_s_t _ _ _ _ w h) (fun w => bul_i_t _ _ _ _ w h) w

theorem fnExactMulRootTwo_walk (a b c d : Int) (ha : I6 a) (hb : I6 b) (hc : I6 c) (hd : I6 d) (w : World) :
    Calls Try.prog 12 #[rg a b c d] w fun e w' => e = .returned (.bool true) ∧ Below w.heap.size w w' := by
  cases h : vr a b c d
  · exact lwMulRootTwo _ _ _ _ _ _ _ _ _ (fun w => root_s_f _ _ _ _ w h) (fun w => root_i_f _ _ _ _ w h) w
  · cases k : vr (b - d) (a + c) (b + d) (c - a)
    · exact lwMulRootTwo _ _ _ _ _ _ _ _ _ (fun w => root_s_o _ _ _ _ w h k) (fun w => root_i_o _ _ _ _ w h k) w
    · exact lwMulRootTwo _ _ _ _ _ _ _ _ _ (fun w => root_s_t _ _ _ _ w h k) (fun w => root_i_t _ _ _ _ w h k) w
end Go.Proofs.Ytdcmicianbihjaa
