/- Helpers of the laws on drawn numbers. -/
import Derived.Test.YtefmglofnoinmaaRingFn
import Derived.Test.YtefmglofnoinmaaDrawE
import Derived.Deep.LoopGhost
import Derived.Test.YtefmglofnoinmaaHeldB
import Derived.Deep.RegionHeld3
import Derived.Deep.MidRow
import Derived.Deep.DeepCutAuto
import Derived.Deep.RegionWith
import Derived.Deep.DeepCutAuto
namespace Go.Proofs.Ytefmglofnoinmaa
open Go.RowKit RM
set_option linter.unusedVariables false
set_option linter.unusedSimpArgs false
attribute [local irreducible] World.setCell
theorem mul_d (a b c d p q r s A B C D : Int) (ok : Bool) (w : World) (h : mv ⟨a, b, c, d⟩ ⟨p, q, r, s⟩ = (⟨A, B, C, D⟩, ok)) :
    Calls Try.prog 20 #[rg a b c d, rg p q r s] w fun ee w' => ee = .returned (rt A B C D ok) ∧ Below w.heap.size w w' := mul_c w h
theorem mul_sd (a b c d p q r s A B C D : Int) (ok : Bool) (w : World) (h : mv ⟨a, b, c, d⟩ ⟨p, q, r, s⟩ = (⟨A, B, C, D⟩, ok)) :
    Calls Try.prog 21 #[rg a b c d, rg p q r s] w fun ee w' => ee = .returned (rt A B C D ok) ∧ Below w.heap.size w w' := mul_sc w h
theorem add_d (a b c d p q r s A B C D : Int) (ok : Bool) (w : World) (h : av ⟨a, b, c, d⟩ ⟨p, q, r, s⟩ = (⟨A, B, C, D⟩, ok)) :
    Calls Try.prog 22 #[rg a b c d, rg p q r s] w fun ee w' => ee = .returned (rt A B C D ok) ∧ Below w.heap.size w w' := add_c w h
theorem conj_d (a b c d  A B C D : Int) (ok : Bool) (w : World) (h : cv ⟨a, b, c, d⟩ = (⟨A, B, C, D⟩, ok)) :
    Calls Try.prog 23 #[rg a b c d] w fun ee w' => ee = .returned (rt A B C D ok) ∧ Below w.heap.size w w' := conj_c w h
theorem bul_d (a b c d  A B C D : Int) (ok : Bool) (w : World) (h : bv ⟨a, b, c, d⟩ = (⟨A, B, C, D⟩, ok)) :
    Calls Try.prog 24 #[rg a b c d] w fun ee w' => ee = .returned (rt A B C D ok) ∧ Below w.heap.size w w' := bul_c w h

set_option maxRecDepth 100000 in
set_option maxHeartbeats 2000000 in
theorem big_any {A B : Option Addr} {l c l2 c2 : Nat} (w : World) (h1 : (l : Int) ≤ 9223372036854775807) (h2 : (l2 : Int) ≤ 9223372036854775807) :
    Calls Try.prog 17 #[.slice A l c, .slice B l2 c2] w fun e w' => ∃ v : Bool, e = .returned (.bool v) ∧ Below w.heap.size w w' := by
  go_enter Try.func17, Try.ntmps17
  go_wp2_with (fail)
  all_goals (go_ret; first | exact ⟨_, rfl, Below.refl _ _⟩ | exact Below.refl _ _ | exact ⟨Or.inl rfl, Below.refl _ _⟩ | exact ⟨Or.inr rfl, Below.refl _ _⟩)

theorem C4.ofg {W : World} {g : Nat} (a b c d : Int) (t : TypeId) (hg : W.heap.size = g) : C4 (W.alloc (.cells #[.int .i64 a, .int .i64 b, .int .i64 c, .int .i64 d] t)) g a b c d := by
  subst hg; exact C4.of W a b c d t
theorem C5.ofg {W : World} {g : Nat} (a b c d e : Int) (t : TypeId) (hg : W.heap.size = g) : C5 (W.alloc (.cells #[.int .i64 a, .int .i64 b, .int .i64 c, .int .i64 d, .int .i64 e] t)) g a b c d e := by
  subst hg; exact ⟨by go_simp, by go_simp, by go_simp, by go_simp, by go_simp, by go_simp, by go_simp, by go_simp, by go_simp, by go_simp⟩
theorem C4.al {W : World} {o : Obj} {k : Nat} {a b c d : Int} (h : C4 W k a b c d) : C4 (W.alloc o) k a b c d := h.mono ((Below.refl _ _).alloc (Nat.le_refl _) _)
end Go.Proofs.Ytefmglofnoinmaa
