/- The laws on MulDyadic and NormSquare hold at every argument. -/
import Derived.Test.YtefmglofnoinmaaMulTwo
import Derived.Test.YtefmglofnoinmaaLwMulDyadic
import Derived.Test.YtefmglofnoinmaaLwD
import Derived.Deep.LoopGhost
namespace Go.Proofs.Ytefmglofnoinmaa
open Go.RowKit RM
set_option linter.unusedVariables false
set_option linter.unusedSimpArgs false
attribute [local irreducible] World.setCell
/-- within int -/
abbrev I6e (x : Int) : Prop := -9223372036854775808 ≤ x ∧ x ≤ 9223372036854775807

theorem fnExactMulDyadic_walk (a b c d e : Int) (ha : I6e a) (hb : I6e b) (hc : I6e c) (hd : I6e d) (he : I6e e) (p q r s t : Int) (hp : I6e p) (hq : I6e q) (hr : I6e r) (hs : I6e s) (ht : I6e t) (w : World) :
    Calls Try.prog 11 #[dy a b c d e, dy p q r s t] w fun ee w' => ee = .returned (.bool true) ∧ Below w.heap.size w w' := by
  rcases vi_cases (a := a) (b := b) (c := c) (d := d) (e := e) with h | ⟨n, rfl, h⟩
  · exact lwMulDyadic _ _ _ _ _ _ _ _ _ _ _ _ _ _ _ _ (fun w => mulD_s_f1 _ _ _ _ _ _ _ _ _ _ w h) (fun w => mulD_i_f1 _ _ _ _ _ _ _ _ _ _ w h) w
  · rcases vi_cases (a := p) (b := q) (c := r) (d := s) (e := t) with k | ⟨m, rfl, k⟩
    · exact lwMulDyadic _ _ _ _ _ _ _ _ _ _ _ _ _ _ _ _ (fun w => mulD_s_f2 _ _ _ _ _ _ _ _ _ _ w h k) (fun w => mulD_i_f2 _ _ _ _ _ _ _ _ _ _ w h k) w
    · obtain ⟨L, M, N, O, E, zz, hm, g | g⟩ := mul_two h k
      · obtain ⟨rfl, _, _, _, hi⟩ := g
        exact lwMulDyadic _ _ _ _ _ _ _ _ _ _ _ _ _ _ _ _ (fun w => mul_s_y _ _ _ _ _ _ _ _ _ _ _ _ _ _ _ w h k hm) hi w
      · obtain ⟨rfl, _, hi⟩ := g
        exact lwMulDyadic _ _ _ _ _ _ _ _ _ _ _ _ _ _ _ _ (fun w => mul_s_n _ _ _ _ _ _ _ _ _ _ _ _ _ _ _ w h k hm) hi w

theorem fnExactNormSquare_walk (a b c d e : Int) (ha : I6e a) (hb : I6e b) (hc : I6e c) (hd : I6e d) (he : I6e e) (w : World) :
    Calls Try.prog 14 #[dy a b c d e] w fun ee w' => ee = .returned (.bool true) ∧ Below w.heap.size w w' := by
  rcases vi_cases (a := a) (b := b) (c := c) (d := d) (e := e) with h | ⟨n, rfl, h⟩
  · exact lwNormSquare _ _ _ _ _ _ _ _ _ _ _ (fun w => ns_s_f _ _ _ _ _ w h) (fun w => ns_i_f _ _ _ _ _ w h) w
  · rcases ns_two h with ⟨L, M, N, O, E, _, h1, h2⟩ | ⟨h1, h2⟩
    · exact lwNormSquare _ _ _ _ _ _ _ _ _ _ _ h1 h2 w
    · exact lwNormSquare _ _ _ _ _ _ _ _ _ _ _ h1 h2 w
end Go.Proofs.Ytefmglofnoinmaa
