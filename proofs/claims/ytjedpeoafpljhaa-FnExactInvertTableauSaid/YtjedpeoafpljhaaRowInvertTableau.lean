/- The law FnExactInvertTableau returns true: InvertTableau answers as its model at every argument. Conditions: none: for every input; the arguments read afterwards as before, and all other memory stays. -/
import Derived.Test.YtjedpeoafpljhaaRows
import Derived.Test.YtjedpeoafpljhaaPfA
import Derived.Test.YtjedpeoafpljhaaPfB
import Derived.Test.YtjedpeoafpljhaaPfC
import Derived.Test.YtjedpeoafpljhaaRdT
import Derived.Test.YtjedpeoafpljhaaZi2
namespace Go.Proofs.Ytjedpeoafpljhaa.fnExactInvertTableau
open Go.ChangeShapes Go.WideShapes Go.ChangeAt Go.RowKit
open C4
open Go.ChangeMaps (open_string shut_string)
set_option linter.unusedVariables false

set_option maxRecDepth 100000 in
theorem lifted (os : Os) (started : os.Started) (H : Type) (enc : TypeId × Value → H) :
    ReturnsInHanded {} Try.checked os 6 .any (Rows.fnExactInvertTableauSpec.pre6 enc Try.prog Try.f6 Rows.fnExactInvertTableauRow.domain false) (Rows.fnExactInvertTableauSpec.post enc Try.prog Try.f6 false true false false) := by
  refine returnsInHanded_of_change (C := Try.checked) own started (by kernel_rfl) Try.func6
    (ChangeSpec.witness6 (enc := enc) (C := Try.checked) false ⟨#[], #[tableauV 0 none 0 0 none 0 0], []⟩ 8 (by kernel_rfl) (by kernel_rfl) (by kernel_rfl) (by kernel_rfl)) ?_
  intro W base args ds gs before hval0 hW hcnd _
  have hval : ∀ (j : Nat) t v, Try.f6.params[j]? = some t → args[j]? = some v → Value.okWide Try.prog W .any base t v := hval0
  have hW' := hW
  obtain ⟨p, q, hA0, hV, rfl, hfz, hnd⟩ := hW
  have hA : DataW.TrodAll enc Try.prog W 0 (fun _ => true) true Try.f6.params.toList args.toList ds p := hA0
  rw [Try.params6] at hA hval
  obtain ⟨v0, vs0, d0, ds0, p0, q0, hargs, rfl, rfl, h0, r0⟩ := trodAll_cons hA
  obtain ⟨rfl, rfl, rfl⟩ := trodAll_nil r0
  obtain rfl : args = #[v0] := by cases args; simp_all
  obtain ⟨rfl, rfl⟩ := trodVars_none hV
  have k0 := h0
  have lt0 : ∀ x ∈ p0, x.block < W.heap.size := by obtain ⟨m, hm⟩ := k0; exact DataW.trod_lt m _ _ _ hm
  obtain ⟨a0_0, A0_1, n0_1, c0_1, xs0_1, A0_2, n0_2, c0_2, xs0_2, rfl, _, ⟨hR0_1, hl0_1, hm0_1⟩, ⟨hR0_2, hl0_2, hm0_2⟩⟩ := argTableau (hval 0 67 v0 rfl rfl) h0
  clear hA0 hval0
  refine (fnExactInvertTableau_walk hR0_1 hl0_1 hm0_1 hR0_2 hl0_2 hm0_2).mono fun e W' ⟨he, bel⟩ => ?_
  subst he
  exact ⟨_, rfl, _, _, _, [], _, [], hW', trodAll_mk1 (shut_bool Try.underlying4 _), (trodAll_cons_mk (Below.trod laidOut (by kernel_rfl) (of_decide_eq_true (by kernel_rfl)) k0 bel lt0) trodAll_mk0), rfl, bel.frame _, fun h => by cases h⟩

theorem over : Rows.fnExactInvertTableauRow.holds Try.pinned (OpenSpec.ofChange Rows.fnExactInvertTableauSpec) :=
  OpenClaim.holds_of_wide 6 Try.f6 rfl rfl rfl rfl rfl rfl rfl ⟨rfl, rfl, rfl, rfl, rfl⟩ rfl rfl rfl rfl rfl (by kernel_rfl) Try.func6 (by unfold joinedFacts; rw [pfA, pfB, pfC]; kernel_rfl)
    (of_decide_eq_true (by kernel_rfl)) (by unfold Func.isWrapper; first | (rw [if_pos (by decide +kernel)]; kernel_rfl) | (rw [if_neg (by decide +kernel)]; exact ⟨rfl, rfl⟩))
    (fun os started H enc _ => lifted os started H enc)

theorem proved : Rows.FnExactInvertTableauSaid := over
#print axioms proved
end Go.Proofs.Ytjedpeoafpljhaa.fnExactInvertTableau
