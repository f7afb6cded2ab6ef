/- The law on MulRing holds at every two numbers. -/
import Derived.Test.YtdcmicianbihjaaLwMulRing
import Derived.Test.YtdcmicianbihjaaMulS
import Derived.Test.YtdcmicianbihjaaMulIt
import Derived.Test.YtdcmicianbihjaaMulIo
import Derived.Test.YtdcmicianbihjaaLawA
namespace Go.Proofs.Ytdcmicianbihjaa
open Go.RowKit RM
set_option linter.unusedVariables false
set_option linter.unusedSimpArgs false

theorem fnExactMulRing_walk (a b c d : Int) (ha : I6 a) (hb : I6 b) (hc : I6 c) (hd : I6 d) (p q r s : Int) (hp : I6 p) (hq : I6 q) (hr : I6 r) (hs : I6 s) (w : World) :
    Calls Try.prog 8 #[rg a b c d, rg p q r s] w fun e w' => e = .returned (.bool true) ∧ Below w.heap.size w w' := by
  cases h : vr a b c d
  · exact lwMulRing _ _ _ _ _ _ _ _ _ _ _ _ _ (fun w => mul_s_f1 _ _ _ _ _ _ _ _ w h) (fun w => mul_i_f1 _ _ _ _ _ _ _ _ w h) w
  · cases k : vr p q r s
    · exact lwMulRing _ _ _ _ _ _ _ _ _ _ _ _ _ (fun w => mul_s_f2 _ _ _ _ _ _ _ _ w h k) (fun w => mul_i_f2 _ _ _ _ _ _ _ _ w h k) w
    · cases o : vr (m0 a b c d p q r s) (m1 a b c d p q r s) (m2 a b c d p q r s) (m3 a b c d p q r s)
      · exact lwMulRing _ _ _ _ _ _ _ _ _ _ _ _ _ (fun w => mul_s_o _ _ _ _ _ _ _ _ w h k o) (fun w => mul_i_o _ _ _ _ _ _ _ _ w h k o) w
      · exact lwMulRing _ _ _ _ _ _ _ _ _ _ _ _ _ (fun w => mul_s_t _ _ _ _ _ _ _ _ w h k o) (fun w => mul_i_t _ _ _ _ _ _ _ _ w h k o) w
end Go.Proofs.Ytdcmicianbihjaa
