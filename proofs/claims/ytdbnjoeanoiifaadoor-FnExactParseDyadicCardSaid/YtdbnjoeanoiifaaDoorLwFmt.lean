/- The walk of the law on FormatRing. -/
import Derived.Test.YtdbnjoeanoiifaaDoorFm
import Derived.Test.YtdbnjoeanoiifaaDoorSf
import Derived.Test.YtdbnjoeanoiifaaDoorHeldB
namespace Go.Proofs.YtdbnjoeanoiifaaDoor
open Go.RowKit RM
set_option linter.unusedVariables false
set_option linter.unusedSimpArgs false
attribute [local irreducible] World.setCell

theorem p10.mono {w w' : World} (h : p10 w) (hb : Below w.heap.size w w') : p10 w' := fun W hW => h W (hb.trans (hW.mono hb.size))

set_option maxRecDepth 100000 in
set_option maxHeartbeats 1000000 in
theorem fr_i_f (a b c d : Int) (w : World) (hx : vr a b c d = false) :
    Calls Tryd.prog 10 #[rg a b c d] w fun e w' => e = .returned (.tuple #[.string ⟨#[]⟩, .bool false]) ∧ Below w.heap.size w w' := by
  have H := hid hx
  clear hx
  go_enter Tryd.func10, Tryd.ntmps10
  go_wp2_with (first
    | (go_at_call 26; ((with_reducible refine (iv_f _ _ _ _ _ H.out).mono ?_); rintro e w1 ⟨rfl, hb1⟩; obtain ⟨hc1, hf1, hz1⟩ := bcell hb1; (try simp at hz1)))
    | go_in)
  all_goals refine bodyPost_ret (v := .tuple #[.string ⟨#[]⟩, .bool false]) (by simp [results, Tryd.results10, go_sem, *]) rfl ⟨rfl, ?_⟩
  all_goals repeat' (first | (with_reducible exact Below.refl _ _) | (with_reducible refine Below.alloc ?_ ?_ _) | (with_reducible refine Below.drew ?_) | (with_reducible refine Below.setCell ?_ ?_ _) | (with_reducible refine chain ?_ (by assumption) ?_) | omega | (simp; done) | (simp; omega))

end Go.Proofs.YtdbnjoeanoiifaaDoor
