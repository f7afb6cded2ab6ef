/- IsPhase: the law. -/
import Derived.Test.YtgcligmpdlffoaaIb
import Derived.Test.YtgcligmpdlffoaaZp23
import Derived.Test.YtgcligmpdlffoaaZp20
import Derived.Test.YtgcligmpdlffoaaZp21
import Derived.Test.YtgcligmpdlffoaaZp16
import Derived.Test.YtgcligmpdlffoaaZp17
namespace Go.Proofs.Ytgcligmpdlffoaa
open Go.RowKit RM
set_option linter.unusedVariables false
set_option linter.unusedSimpArgs false
attribute [local irreducible] World.setCell

open GM
theorem apl_ok {n D C : Nat} (hD : dimB (D : Int) = true) (hC : dimB (C : Int) = true) : ∀ (gs : List C4.GateV) (xs ys : List D5), (∀ (i : Nat) (g : C4.GateV), gs[i]? = some g → C4.vgB (n : Int) g = true) → okM (D : Int) (C : Int) (D * C) xs = true → apl n D C gs xs = some ys → okM (D : Int) (C : Int) (D * C) ys = true := by
  intro gs
  induction gs with
  | nil => intro xs ys _ hx h; obtain rfl := Option.some.inj h; exact hx
  | cons g gs ih =>
    intro xs ys hG hx h
    have h2 : (if stB n D C g xs then none else apl n D C gs (stF n D C g xs)) = some ys := h
    split at h2
    · cases h2
    · exact ih _ _ (fun i g hg => hG (i + 1) g (by rw [List.getElem?_cons_succ]; exact hg)) (stF_okM hD hC (vg_nat (hG 0 g rfl)).1 (okM_iff.1 hx).2.2.2) h2
theorem opL_ok {m n : Nat} {xs : List C4.GateV} {zs : List D5} (h1 : 1 ≤ m) (h5 : m ≤ 5) (hok : C4.okC (m : Int) n xs = true) (hq : opL m xs = some zs) : okM ((2 ^ m : Nat) : Int) ((2 ^ m : Nat) : Int) (2 ^ m * 2 ^ m) zs = true := by
  obtain ⟨m', e, -, -, -, hG⟩ := okC_nat hok
  obtain rfl : m = m' := by omega
  obtain ⟨d2, d32, dw, dw2, dd⟩ := pow_dim h1 h5 (D := 2 ^ m) rfl
  exact apl_ok dd dd xs _ zs hG (okM_iff.2 ⟨dd, dd, by simp, unit_ok _⟩) hq
end Go.Proofs.Ytgcligmpdlffoaa
