/- The law on SubRing holds at every two numbers. -/
import Derived.Test.YtdcmicianbihjaaLwSubRing
import Derived.Test.YtdcmicianbihjaaSubA
import Derived.Test.YtdcmicianbihjaaLawA
namespace Go.Proofs.Ytdcmicianbihjaa
open Go.RowKit RM
set_option linter.unusedVariables false
set_option linter.unusedSimpArgs false

theorem fnExactSubRing_walk (a b c d : Int) (ha : I6 a) (hb : I6 b) (hc : I6 c) (hd : I6 d) (p q r s : Int) (hp : I6 p) (hq : I6 q) (hr : I6 r) (hs : I6 s) (w : World) :
    Calls Try.prog 7 #[rg a b c d, rg p q r s] w fun e w' => e = .returned (.bool true) ∧ Below w.heap.size w w' := by
  cases h : vr a b c d
  · exact lwSubRing _ _ _ _ _ _ _ _ _ _ _ _ _ (fun w => sub_s_f1 _ _ _ _ _ _ _ _ w h) (fun w => sub_i_f1 _ _ _ _ _ _ _ _ w h) w
  · cases k : vr p q r s
    · exact lwSubRing _ _ _ _ _ _ _ _ _ _ _ _ _ (fun w => sub_s_f2 _ _ _ _ _ _ _ _ w h k) (fun w => sub_i_f2 _ _ _ _ _ _ _ _ w h k) w
    · cases o : vr (a - p) (b - q) (c - r) (d - s)
      · exact lwSubRing _ _ _ _ _ _ _ _ _ _ _ _ _ (fun w => sub_s_o _ _ _ _ _ _ _ _ w h k o) (fun w => sub_i_o _ _ _ _ _ _ _ _ w h k o) w
      · exact lwSubRing _ _ _ _ _ _ _ _ _ _ _ _ _ (fun w => sub_s_t _ _ _ _ _ _ _ _ w h k o) (fun w => sub_i_t _ _ _ _ _ _ _ _ w h k o) w
end Go.Proofs.Ytdcmicianbihjaa
