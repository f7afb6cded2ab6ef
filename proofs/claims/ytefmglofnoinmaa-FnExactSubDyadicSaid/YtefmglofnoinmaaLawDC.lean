/- The laws on AddDyadic and SubDyadic hold at every two numbers. -/
import Derived.Test.YtefmglofnoinmaaAddTwo
import Derived.Test.YtefmglofnoinmaaLwAddDyadic
import Derived.Test.YtefmglofnoinmaaLwSubDyadic
import Derived.Deep.LoopGhost
namespace Go.Proofs.Ytefmglofnoinmaa
open Go.RowKit RM
set_option linter.unusedVariables false
set_option linter.unusedSimpArgs false
attribute [local irreducible] World.setCell
/-- within int -/
abbrev I6f (x : Int) : Prop := -9223372036854775808 ≤ x ∧ x ≤ 9223372036854775807

theorem fnExactAddDyadic_walk (a b c d e : Int) (ha : I6f a) (hb : I6f b) (hc : I6f c) (hd : I6f d) (he : I6f e) (p q r s t : Int) (hp : I6f p) (hq : I6f q) (hr : I6f r) (hs : I6f s) (ht : I6f t) (w : World) :
    Calls Try.prog 9 #[dy a b c d e, dy p q r s t] w fun ee w' => ee = .returned (.bool true) ∧ Below w.heap.size w w' := by
  rcases vi_cases (a := a) (b := b) (c := c) (d := d) (e := e) with h | ⟨n, rfl, h⟩
  · exact lwAddDyadic _ _ _ _ _ _ _ _ _ _ _ _ _ _ _ _ (fun w => addD_s_f1 _ _ _ _ _ _ _ _ _ _ w h) (fun w => addD_i_f1 _ _ _ _ _ _ _ _ _ _ w h) w
  · rcases vi_cases (a := p) (b := q) (c := r) (d := s) (e := t) with k | ⟨m, rfl, k⟩
    · exact lwAddDyadic _ _ _ _ _ _ _ _ _ _ _ _ _ _ _ _ (fun w => addD_s_f2 _ _ _ _ _ _ _ _ _ _ w h k) (fun w => addD_i_f2 _ _ _ _ _ _ _ _ _ _ w h k) w
    · obtain ⟨L, M, N, O, E, zz, hm, g | g⟩ := add_two h k
      · obtain ⟨rfl, _, hi⟩ := g
        exact lwAddDyadic _ _ _ _ _ _ _ _ _ _ _ _ _ _ _ _ (fun w => add_s_y _ _ _ _ _ _ _ _ _ _ _ _ _ _ _ w h k hm) hi w
      · obtain ⟨rfl, _, hi⟩ := g
        exact lwAddDyadic _ _ _ _ _ _ _ _ _ _ _ _ _ _ _ _ (fun w => add_s_n _ _ _ _ _ _ _ _ _ _ _ _ _ _ _ w h k hm) hi w

theorem fnExactSubDyadic_walk (a b c d e : Int) (ha : I6f a) (hb : I6f b) (hc : I6f c) (hd : I6f d) (he : I6f e) (p q r s t : Int) (hp : I6f p) (hq : I6f q) (hr : I6f r) (hs : I6f s) (ht : I6f t) (w : World) :
    Calls Try.prog 10 #[dy a b c d e, dy p q r s t] w fun ee w' => ee = .returned (.bool true) ∧ Below w.heap.size w w' := by
  rcases vi_cases (a := a) (b := b) (c := c) (d := d) (e := e) with h | ⟨n, rfl, h⟩
  · refine lwSubDyadic _ _ _ _ _ _ _ _ _ _ _ _ _ _ _ _ (fun w => subD_s_f1 _ _ _ _ _ _ _ _ _ _ w h) (fun w => ?_) w
    cases hv : vr p q r s
    · exact subD_i_f _ _ _ _ _ _ _ _ _ _ w hv
    · exact subD_i _ _ _ _ _ _ _ _ _ _ _ _ _ _ _ _ w hv (fun w => addD_i_f1 _ _ _ _ _ _ _ _ _ _ w h)
  · rcases vi_cases (a := p) (b := q) (c := r) (d := s) (e := t) with k | ⟨m, rfl, k⟩
    · refine lwSubDyadic _ _ _ _ _ _ _ _ _ _ _ _ _ _ _ _ (fun w => subD_s_f2 _ _ _ _ _ _ _ _ _ _ w h k) (fun w => ?_) w
      cases hv : vr p q r s
      · exact subD_i_f _ _ _ _ _ _ _ _ _ _ w hv
      · exact subD_i _ _ _ _ _ _ _ _ _ _ _ _ _ _ _ _ w hv (fun w => addD_i_f2 _ _ _ _ _ _ _ _ _ _ w h (vi_neg k))
    · obtain ⟨L, M, N, O, E, zz, hm, g | g⟩ := add_two h (vd_neg k)
      · obtain ⟨rfl, _, hi⟩ := g
        exact lwSubDyadic _ _ _ _ _ _ _ _ _ _ _ _ _ _ _ _ (fun w => sub_s_y _ _ _ _ _ _ _ _ _ _ _ _ _ _ _ w h k hm) (fun w => subD_i _ _ _ _ _ _ _ _ _ _ _ _ _ _ _ _ w (vd_iff.1 k).1 hi) w
      · obtain ⟨rfl, _, hi⟩ := g
        exact lwSubDyadic _ _ _ _ _ _ _ _ _ _ _ _ _ _ _ _ (fun w => sub_s_n _ _ _ _ _ _ _ _ _ _ _ _ _ _ _ w h k hm) (fun w => subD_i _ _ _ _ _ _ _ _ _ _ _ _ _ _ _ _ w (vd_iff.1 k).1 hi) w
end Go.Proofs.Ytefmglofnoinmaa
