/- The law on AddRing holds at every two numbers. -/
import Derived.Test.YtdcmicianbihjaaLwAddRing
import Derived.Test.YtdcmicianbihjaaAddA
import Derived.Test.YtdcmicianbihjaaLawA
namespace Go.Proofs.Ytdcmicianbihjaa
open Go.RowKit RM
set_option linter.unusedVariables false
set_option linter.unusedSimpArgs false

theorem fnExactAddRing_walk (a b c d : Int) (ha : I6 a) (hb : I6 b) (hc : I6 c) (hd : I6 d) (p q r s : Int) (hp : I6 p) (hq : I6 q) (hr : I6 r) (hs : I6 s) (w : World) :
    Calls Try.prog 6 #[rg a b c d, rg p q r s] w fun e w' => e = .returned (.bool true) ∧ Below w.heap.size w w' := by
  cases h : vr a b c d
  · exact lwAddRing _ _ _ _ _ _ _ _ _ _ _ _ _ (fun w => add_s_f1 _ _ _ _ _ _ _ _ w h) (fun w => add_i_f1 _ _ _ _ _ _ _ _ w h) w
  · cases k : vr p q r s
    · exact lwAddRing _ _ _ _ _ _ _ _ _ _ _ _ _ (fun w => add_s_f2 _ _ _ _ _ _ _ _ w h k) (fun w => add_i_f2 _ _ _ _ _ _ _ _ w h k) w
    · cases o : vr (a + p) (b + q) (c + r) (d + s)
      · exact lwAddRing _ _ _ _ _ _ _ _ _ _ _ _ _ (fun w => add_s_o _ _ _ _ _ _ _ _ w h k o) (fun w => add_i_o _ _ _ _ _ _ _ _ w h k o) w
      · exact lwAddRing _ _ _ _ _ _ _ _ _ _ _ _ _ (fun w => add_s_t _ _ _ _ _ _ _ _ w h k o) (fun w => add_i_t _ _ _ _ _ _ _ _ w h k o) w
end Go.Proofs.Ytdcmicianbihjaa
