/- The laws on IsValidDyadic, DyadicOf, ConjDyadic and RealSign hold at every argument. -/
import Derived.Test.YtefmglofnoinmaaLwD
import Derived.Test.YtefmglofnoinmaaDyC
import Derived.Test.YtefmglofnoinmaaSignB
import Derived.Deep.LoopGhost
namespace Go.Proofs.Ytefmglofnoinmaa
open Go.RowKit RM
set_option linter.unusedVariables false
set_option linter.unusedSimpArgs false
attribute [local irreducible] World.setCell
/-- within int -/
abbrev I6d (x : Int) : Prop := -9223372036854775808 ≤ x ∧ x ≤ 9223372036854775807

theorem fnExactIsValidDyadic_walk (a b c d e : Int) (ha : I6d a) (hb : I6d b) (hc : I6d c) (hd : I6d d) (he : I6d e) (w : World) :
    Calls Try.prog 7 #[dy a b c d e] w fun ee w' => ee = .returned (.bool true) ∧ Below w.heap.size w w' := by
  rcases vi_cases (a := a) (b := b) (c := c) (d := d) (e := e) with h | ⟨n, rfl, h⟩
  · exact lwIsValidDyadic _ _ _ _ _ _ (fun w => ivs_f _ _ _ _ _ w h) (fun w => ivd_no w h) w
  · exact lwIsValidDyadic _ _ _ _ _ _ (fun w => ivs_t _ _ _ _ _ w h) (fun w => ivd_v w h) w

theorem fnExactDyadicOf_walk (a b c d : Int) (ha : I6d a) (hb : I6d b) (hc : I6d c) (hd : I6d d) (e : Int) (he : I6d e) (w : World) :
    Calls Try.prog 8 #[rg a b c d, .int .i64 e] w fun ee w' => ee = .returned (.bool true) ∧ Below w.heap.size w w' := by
  cases h : vr a b c d
  · exact lwDyadicOf _ _ _ _ _ _ _ _ _ _ _ (fun w => dos_f _ _ _ _ _ w h) (fun w => dof_f _ _ _ _ _ w h) w
  · by_cases h0 : e < 0
    · exact lwDyadicOf _ _ _ _ _ _ _ _ _ _ _ (fun w => dos_n _ _ _ _ _ w h h0) (fun w => dof_n _ _ _ _ _ w h h0) w
    · by_cases h1 : 60 < e
      · exact lwDyadicOf _ _ _ _ _ _ _ _ _ _ _ (fun w => dos_m _ _ _ _ _ w h h1) (fun w => dof_m _ _ _ _ _ w h h1) w
      · obtain ⟨n, rfl⟩ : ∃ n : Nat, e = n := ⟨e.toNat, by omega⟩
        rcases hq : low n a b c d with ⟨A, B, C, D, E⟩
        exact lwDyadicOf _ _ _ _ _ _ _ _ _ _ _ (fun w => dos_t _ _ _ _ _ _ _ _ _ _ w h (by omega) hq) (fun w => dof_t _ _ _ _ _ _ _ _ _ _ w h (by omega) hq) w

theorem fnExactConjDyadic_walk (a b c d e : Int) (ha : I6d a) (hb : I6d b) (hc : I6d c) (hd : I6d d) (he : I6d e) (w : World) :
    Calls Try.prog 12 #[dy a b c d e] w fun ee w' => ee = .returned (.bool true) ∧ Below w.heap.size w w' := by
  rcases vi_cases (a := a) (b := b) (c := c) (d := d) (e := e) with h | ⟨n, rfl, h⟩
  · exact lwConjDyadic _ _ _ _ _ _ _ _ _ _ _ (fun w => cj_s_f _ _ _ _ _ w h) (fun w => cj_i_f _ _ _ _ _ w h) w
  · exact lwConjDyadic _ _ _ _ _ _ _ _ _ _ _ (fun w => cj_s_t _ _ _ _ _ w h) (fun w => cj_i_t _ _ _ _ _ w h) w

theorem fnExactRealSign_walk (u : Int) (hu : I6d u) (v : Int) (hv : I6d v) (w : World) :
    Calls Try.prog 15 #[.int .i64 u, .int .i64 v] w fun ee w' => ee = .returned (.bool true) ∧ Below w.heap.size w w' := by
  cases h : vp u v
  · exact lwRealSign _ _ _ _ (fun w => rs_s_f _ _ w h) (fun w => rs_i_f _ _ w h) w
  · exact lwRealSign _ _ _ _ (fun w => rs_s_t _ _ w h) (fun w => rs_i_t _ _ w h) w
end Go.Proofs.Ytefmglofnoinmaa
