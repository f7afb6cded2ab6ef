/- The contract of the model's FormatRing. -/
import Derived.Test.YtefmglofnoinmaaDoorInt
namespace Go.Proofs.YtefmglofnoinmaaDoor
open Go.RowKit RM
set_option linter.unusedVariables false
set_option linter.unusedSimpArgs false
attribute [local irreducible] World.setCell


set_option maxRecDepth 100000 in
set_option maxHeartbeats 1000000 in
theorem fr_s_t (a b c d : Int) (w : World) (hx : vr a b c d = true) :
    Calls Tryd.prog 14 #[rg a b c d] w fun e w' => e = .returned (.tuple #[.string (ftx a b c d), .bool true]) ∧ Below w.heap.size w w' := by
  have H := hid hx
  have ht : ∀ w, Calls Tryd.prog 31 #[rg a b c d] w fun e w' => e = .returned (.string (ftx a b c d)) ∧ Below w.heap.size w w' := fun w => text a b c d w hx
  generalize ftx a b c d = T at *
  clear hx
  go_enter Tryd.func14, Tryd.ntmps14
  go_wp2_with (first
    | (go_at_call 37; ((with_reducible refine (lg_t _ _ _ _ _ H.out).mono ?_); rintro e w1 ⟨rfl, hb1⟩; obtain ⟨hc1, hf1, hz1⟩ := bcell hb1; (try simp at hz1)))
    | (go_at_call 31; ((with_reducible refine (ht _).mono ?_); rintro e w2 ⟨rfl, hb2⟩; obtain ⟨hc2, hf2, hz2⟩ := bcell hb2; (try simp at hz2)))
    | go_in)
  all_goals refine bodyPost_ret (v := .tuple #[.string T, .bool true]) (by simp [results, Tryd.results14, go_sem, *]) rfl ⟨rfl, ?_⟩
  all_goals repeat' (first | (with_reducible exact Below.refl _ _) | (with_reducible refine Below.alloc ?_ ?_ _) | (with_reducible refine Below.drew ?_) | (with_reducible refine Below.setCell ?_ ?_ _) | (with_reducible refine chain ?_ (by assumption) ?_) | omega | (simp; done) | (simp; omega))

set_option maxRecDepth 100000 in
set_option maxHeartbeats 1000000 in
theorem fr_s_f (a b c d : Int) (w : World) (hx : vr a b c d = false) :
    Calls Tryd.prog 14 #[rg a b c d] w fun e w' => e = .returned (.tuple #[.string ⟨#[]⟩, .bool false]) ∧ Below w.heap.size w w' := by
  have H := hid hx
  clear hx
  go_enter Tryd.func14, Tryd.ntmps14
  go_wp2_with (first
    | (go_at_call 37; ((with_reducible refine (lg_f _ _ _ _ _ H.out).mono ?_); rintro e w1 ⟨rfl, hb1⟩; obtain ⟨hc1, hf1, hz1⟩ := bcell hb1; (try simp at hz1)))
    | go_in)
  all_goals refine bodyPost_ret (v := .tuple #[.string ⟨#[]⟩, .bool false]) (by simp [results, Tryd.results14, go_sem, *]) rfl ⟨rfl, ?_⟩
  all_goals repeat' (first | (with_reducible exact Below.refl _ _) | (with_reducible refine Below.alloc ?_ ?_ _) | (with_reducible refine Below.drew ?_) | (with_reducible refine Below.setCell ?_ ?_ _) | (with_reducible refine chain ?_ (by assumption) ?_) | omega | (simp; done) | (simp; omega))
end Go.Proofs.YtefmglofnoinmaaDoor
