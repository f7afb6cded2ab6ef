/- The laws on AbsSquare and NormOf hold at every number. -/
import Derived.Test.YtdcmicianbihjaaNorm
import Derived.Test.YtdcmicianbihjaaLwOneB
import Derived.Test.YtdcmicianbihjaaLawA
namespace Go.Proofs.Ytdcmicianbihjaa
open Go.RowKit RM
set_option linter.unusedVariables false
set_option linter.unusedSimpArgs false

theorem fnExactAbsSquare_walk (a b c d : Int) (ha : I6 a) (hb : I6 b) (hc : I6 c) (hd : I6 d) (w : World) :
    Calls Try.prog 14 #[rg a b c d] w fun e w' => e = .returned (.bool true) ∧ Below w.heap.size w w' := by
  cases h : vr a b c d
  · exact lwAbsSquare _ _ _ _ _ _ _ (fun w => abs_s_f _ _ _ _ w h) (fun w => abs_i_f _ _ _ _ w h) w
  · cases k : vr (uu a b c d) (vv a b c d) 0 (-vv a b c d)
    · exact lwAbsSquare _ _ _ _ _ _ _ (fun w => abs_s_o _ _ _ _ w h k) (fun w => abs_i_o _ _ _ _ w h k) w
    · exact lwAbsSquare _ _ _ _ _ _ _ (fun w => abs_s_t _ _ _ _ w h k) (fun w => abs_i_t _ _ _ _ w h k) w

theorem fnExactNormOf_walk (a b c d : Int) (ha : I6 a) (hb : I6 b) (hc : I6 c) (hd : I6 d) (w : World) :
    Calls Try.prog 15 #[rg a b c d] w fun e w' => e = .returned (.bool true) ∧ Below w.heap.size w w' := by
  cases h : vr a b c d
  · exact lwNormOf _ _ _ _ _ _ (norm_s_z _ _ _ _ fun w => abs_s_f _ _ _ _ w h) (norm_i_z _ _ _ _ fun w => abs_i_f _ _ _ _ w h) w
  · cases k : vr (uu a b c d) (vv a b c d) 0 (-vv a b c d)
    · exact lwNormOf _ _ _ _ _ _ (norm_s_z _ _ _ _ fun w => abs_s_o _ _ _ _ w h k) (norm_i_z _ _ _ _ fun w => abs_i_o _ _ _ _ w h k) w
    · exact lwNormOf _ _ _ _ _ _ (norm_s_t _ _ _ _ _ _ (fun w => abs_s_t _ _ _ _ w h k) (uv_iff.1 k).1 (uv_iff.1 k).2) (norm_i_t _ _ _ _ _ _ (fun w => abs_i_t _ _ _ _ w h k) (uv_iff.1 k).1 (uv_iff.1 k).2) w
end Go.Proofs.Ytdcmicianbihjaa
