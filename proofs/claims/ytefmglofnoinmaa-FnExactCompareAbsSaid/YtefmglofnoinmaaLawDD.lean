/- The law on CompareAbs holds at every two numbers. -/
import Derived.Test.YtefmglofnoinmaaCmpS
import Derived.Test.YtefmglofnoinmaaAddTwo
import Derived.Test.YtefmglofnoinmaaSubI
import Derived.Test.YtefmglofnoinmaaLwCompareAbs
import Derived.Deep.LoopGhost
namespace Go.Proofs.Ytefmglofnoinmaa
open Go.RowKit RM
set_option linter.unusedVariables false
set_option linter.unusedSimpArgs false
attribute [local irreducible] World.setCell
/-- within int -/
abbrev I6g (x : Int) : Prop := -9223372036854775808 ≤ x ∧ x ≤ 9223372036854775807

/-- NormSquare at any number: a valid result from both, or a failure of both -/
theorem ns_any (a b c d e : Int) : (∃ (L M N O : Int) (E : Nat), vd L M N O E = true ∧ (∀ w : World, Calls Try.prog 56 #[dy a b c d e] w fun ee w' => ee = .returned (dt L M N O E true) ∧ Below w.heap.size w w') ∧ (∀ w : World, Calls Try.prog 57 #[dy a b c d e] w fun ee w' => ee = .returned (dt L M N O E true) ∧ Below w.heap.size w w')) ∨ ((∀ w : World, Calls Try.prog 56 #[dy a b c d e] w fun ee w' => ee = .returned (dt 0 0 0 0 0 false) ∧ Below w.heap.size w w') ∧ (∀ w : World, Calls Try.prog 57 #[dy a b c d e] w fun ee w' => ee = .returned (dt 0 0 0 0 0 false) ∧ Below w.heap.size w w')) := by
  rcases vi_cases (a := a) (b := b) (c := c) (d := d) (e := e) with h | ⟨n, rfl, h⟩
  · exact Or.inr ⟨fun w => ns_s_f _ _ _ _ _ w h, fun w => ns_i_f _ _ _ _ _ w h⟩
  · exact ns_two h

theorem fnExactCompareAbs_walk (a b c d e : Int) (ha : I6g a) (hb : I6g b) (hc : I6g c) (hd : I6g d) (he : I6g e) (p q r s t : Int) (hp : I6g p) (hq : I6g q) (hr : I6g r) (hs : I6g s) (ht : I6g t) (w : World) :
    Calls Try.prog 16 #[dy a b c d e, dy p q r s t] w fun ee w' => ee = .returned (.bool true) ∧ Below w.heap.size w w' := by
  rcases ns_any a b c d e with ⟨L, M, N, O, E, vl, hl, hli⟩ | ⟨hl, hli⟩
  · rcases ns_any p q r s t with ⟨L', M', N', O', E', vk, hk, hki⟩ | ⟨hk, hki⟩
    · obtain ⟨P, Q, R, S, F, zz, hm, g | g⟩ := add_two vl (vd_neg vk)
      · obtain ⟨rfl, ⟨A, B, C, D, A', B', C', D', _, _, hv, hlow⟩, hi⟩ := g
        have hvr := (low_vr _ hv hlow).1
        have hp : vp P Q = true := by rw [vp_iff]; have := vr_iff.1 hvr; exact ⟨this.1, this.2.1⟩
        exact lwCompareAbs _ _ _ _ _ _ _ _ _ _ _ _ (fun w => cmp_s_y _ _ _ _ _ _ _ _ _ _ _ _ _ _ _ _ _ _ _ _ _ _ _ _ _ w hl hk (vd_iff.1 vk).1 hm hp) (fun w => cmpD_i _ _ _ _ _ _ _ _ _ _ _ _ _ _ _ _ _ _ _ _ _ _ _ _ _ w hli hki (fun w => subD_i _ _ _ _ _ _ _ _ _ _ _ _ _ _ _ _ w (vd_iff.1 vk).1 hi) hp) w
      · obtain ⟨rfl, _, hi⟩ := g
        exact lwCompareAbs _ _ _ _ _ _ _ _ _ _ _ _ (fun w => cmp_s_n _ _ _ _ _ _ _ _ _ _ _ _ _ _ _ _ _ _ _ _ _ _ _ _ _ w hl hk (vd_iff.1 vk).1 hm) (fun w => cmpD_i_3 _ _ _ _ _ _ _ _ _ _ _ _ _ _ _ _ _ _ _ _ w hli hki (fun w => subD_i _ _ _ _ _ _ _ _ _ _ _ _ _ _ _ _ w (vd_iff.1 vk).1 hi)) w
    · exact lwCompareAbs _ _ _ _ _ _ _ _ _ _ _ _ (fun w => cmp_s_2 _ _ _ _ _ _ _ _ _ _ _ _ _ _ _ w hl hk) (fun w => cmpD_i_2 _ _ _ _ _ _ _ _ _ _ _ _ _ _ _ w hli hki) w
  · rcases ns_any p q r s t with ⟨L', M', N', O', E', vk, hk, hki⟩ | ⟨hk, hki⟩
    · exact lwCompareAbs _ _ _ _ _ _ _ _ _ _ _ _ (fun w => cmp_s_1 _ _ _ _ _ _ _ _ _ _ _ _ _ _ _ _ w hl hk) (fun w => cmpD_i_1 _ _ _ _ _ _ _ _ _ _ w hli) w
    · exact lwCompareAbs _ _ _ _ _ _ _ _ _ _ _ _ (fun w => cmp_s_1 _ _ _ _ _ _ _ _ _ _ _ _ _ _ _ _ w hl hk) (fun w => cmpD_i_1 _ _ _ _ _ _ _ _ _ _ w hli) w
end Go.Proofs.Ytefmglofnoinmaa
