/- Bie -/
import Derived.Test.YtofclfgaekjonaaZq20
import Derived.Test.YtofclfgaekjonaaZq18
import Derived.Test.YtofclfgaekjonaaZq21
import Derived.Test.YtofclfgaekjonaaZq17
import Derived.Test.YtofclfgaekjonaaZq16
import Derived.Test.YtofclfgaekjonaaZq24
namespace Go.Proofs.Ytofclfgaekjonaa
open Go.RowKit RM
set_option linter.unusedVariables false
set_option linter.unusedSimpArgs false
attribute [local irreducible] World.setCell

theorem if5c {α : Type} {a b c d e : Prop} [Decidable a] [Decidable b] [Decidable c] [Decidable d] [Decidable e] (x y : α) : (if a then (if b then (if c then (if d then (if e then x else y) else y) else y) else y) else y) = if a ∧ b ∧ c ∧ d ∧ e then x else y := by
  by_cases ha : a <;> by_cases hb : b <;> by_cases hc : c <;> by_cases hd : d <;> by_cases he : e <;> simp [ha, hb, hc, hd, he]
/-- what stays: the matrix that came in, the box that holds it -/
def S9 (w : World) (g0 cp : Nat) (xs : List D5) (W : World) : Prop :=
  Rd W (some ⟨g0, 0, none⟩) xs ∧ Bx W w.heap.size 51 #[.slice (some ⟨g0, 0, none⟩) 9 cp] ∧ Below w.heap.size w W
theorem S9.mono {w : World} {g0 cp : Nat} {xs : List D5} {W W' : World} (h : S9 w g0 cp xs W) (hb : Below W.heap.size W W') : S9 w g0 cp xs W' :=
  ⟨h.1.mono hb, h.2.1.mono hb, chain h.2.2 hb h.2.2.size⟩
theorem S9.alloc {w : World} {g0 cp : Nat} {xs : List D5} {W : World} (h : S9 w g0 cp xs W) (o : Obj) : S9 w g0 cp xs (W.alloc o) := h.mono ((Below.refl _ _).alloc (Nat.le_refl _) _)
theorem S9.drew {w : World} {g0 cp : Nat} {xs : List D5} {W : World} (h : S9 w g0 cp xs W) : S9 w g0 cp xs W.drew := h.mono (Below.refl _ _).drew
theorem S9.set {w : World} {g0 cp g o : Nat} {u : Value} {xs : List D5} {W : World} (h : S9 w g0 cp xs W) (h1 : w.heap.size < g) (h2 : g0 < w.heap.size) : S9 w g0 cp xs (W.setCell ⟨g, o, none⟩ u) :=
  ⟨h.1.far (p := ⟨g, o, none⟩) (fun a ha => by cases ha; show g0 ≠ g; omega) u, h.2.1.far (by omega), h.2.2.setCell (by show w.heap.size ≤ g; omega) _⟩
theorem Own5.form9 {W : World} {base : Nat} {t : TypeId} {v : Value} {xs : List D5} (h : Own5 W base t v xs) (hl : xs.length = 9) : ∃ h cp, v = .slice (some ⟨h, 0, none⟩) 9 cp ∧ Rd W (some ⟨h, 0, none⟩) xs ∧ base ≤ h ∧ h < W.heap.size ∧ 9 ≤ cp := by
  obtain ⟨A, cp, hv, hR, hA⟩ := h.form
  rcases h.2 with ⟨hv2, h0⟩ | ⟨g, cap, cur, hv2, hb, hg, hnc, hcm, hcs, htake⟩
  · omega
  · rw [hv] at hv2
    simp only [Value.slice.injEq] at hv2
    obtain ⟨e1, e2, e3⟩ := hv2
    subst e1 e3
    obtain ⟨l1, l2⟩ := hA _ rfl
    rw [hl] at hv hnc
    exact ⟨g, cp, hv, hR, l1, l2, hnc⟩
theorem omq0 {w : World} : Calls Try.prog 80 #[.int .i64 0] w fun ee w' => ee = .returned (dy 1 0 0 0 0) ∧ Below w.heap.size w w' := omp (k := 0) (m := 0) (by decide) (by decide) (by decide) (by decide)
theorem det_p {xs : List D5} (hl : xs.length = 9) (hok : allB xs = true) : (stK (fun i => xs.getD i z5) 3).2 = detZ (fun i => xs.getD i z5) ∧ (detZ (fun i => xs.getD i z5) = false → (stK (fun i => xs.getD i z5) 3).1 = (detV2 (fun i => xs.getD i z5)).1) := by
  rw [stK3]
  refine det_m _ ?_
  refine addS_zl ?_
  unfold detP
  exact mulS_ok (okD hok (by omega)) (mnr_ok hl hok (by decide) (by decide))
theorem okBl_9 {xs : List D5} (h : allR xs = true) : okBl 9 xs = (!(anyB 9 (mmG 3 3 xs (tab 9 (tpF xs)))) && (eqL (tab 9 (mmF 3 3 xs (tab 9 (tpF xs)))) (tab 9 (unitP 3 3)) && (!(detZ (fun i => xs.getD i z5)) && (detV2 (fun i => xs.getD i z5)).1.beq one5))) := by
  unfold okBl; rw [h]; simp
theorem tpF_ok {xs : List D5} (hl : xs.length = 9) (hok : allB xs = true) : allB (tab 9 (tpF xs)) = true := by
  refine allB_tab fun q hq => ?_
  unfold tpF
  first | exact okD hok (by omega) | (split <;> exact okD hok (by omega))

end Go.Proofs.Ytofclfgaekjonaa
