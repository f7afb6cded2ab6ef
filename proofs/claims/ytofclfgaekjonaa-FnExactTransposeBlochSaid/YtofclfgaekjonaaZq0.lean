/- PfA, PfB, PfC, Math, MathD, Valid, OneArg, Prod, ArrEq, DivEx -/
import Derived.Test.YtofclfgaekjonaaRows
import Derived.Test.YtofclfgaekjonaaProg
import Derived.Handy
import Derived.LoopTactic
import Derived.ChangeKeysEq
import Derived.RegionTactic
import Derived.BigRegion
namespace Go.Proofs.Ytofclfgaekjonaa
set_option linter.unusedSimpArgs false
theorem ws_sp (r : List Char) : wordsSigns (Char.ofNat 32 :: r) = [] :: wordsSigns r := by rw [wordsSigns]
theorem ws_c {c : Char} (h : c ≠ Char.ofNat 32) {r w : List Char} {ws : List (List Char)} (hr : wordsSigns r = w :: ws) : wordsSigns (c :: r) = (c :: w) :: ws := by
  rw [wordsSigns]
  · rw [hr]
  · exact h
theorem ws_w (u : List Char) : ∀ r : List Char, (u.all fun c => !(c == Char.ofNat 32)) = true → wordsSigns (u ++ Char.ofNat 32 :: r) = u :: wordsSigns r := by
  induction u with
  | nil => intro r _; exact ws_sp r
  | cons c u ih =>
    intro r hu
    rw [List.all_cons, Bool.and_eq_true] at hu
    exact ws_c (by simpa using hu.1) (ih r hu.2)
set_option maxRecDepth 100000 in
theorem pfH : Try.pinned.checked.prog.initOrder = String.ofList ([Char.ofNat 104, Char.ofNat 97, Char.ofNat 114, Char.ofNat 110, Char.ofNat 101, Char.ofNat 115, Char.ofNat 115] ++ Char.ofNat 32 :: ([Char.ofNat 49, Char.ofNat 97, Char.ofNat 97, Char.ofNat 52, Char.ofNat 49, Char.ofNat 52, Char.ofNat 50, Char.ofNat 50, Char.ofNat 50, Char.ofNat 57, Char.ofNat 49, Char.ofNat 51, Char.ofNat 98, Char.ofNat 53, Char.ofNat 53, Char.ofNat 50, Char.ofNat 97, Char.ofNat 54, Char.ofNat 54, Char.ofNat 57, Char.ofNat 52, Char.ofNat 54, Char.ofNat 97, Char.ofNat 51, Char.ofNat 57, Char.ofNat 56, Char.ofNat 49, Char.ofNat 53, Char.ofNat 48, Char.ofNat 50, Char.ofNat 55, Char.ofNat 54, Char.ofNat 101, Char.ofNat 100, Char.ofNat 101, Char.ofNat 101, Char.ofNat 54, Char.ofNat 98, Char.ofNat 55, Char.ofNat 99, Char.ofNat 50, Char.ofNat 52, Char.ofNat 54, Char.ofNat 49, Char.ofNat 98, Char.ofNat 55, Char.ofNat 52, Char.ofNat 102, Char.ofNat 102, Char.ofNat 98, Char.ofNat 100, Char.ofNat 98, Char.ofNat 100, Char.ofNat 55, Char.ofNat 54, Char.ofNat 48, Char.ofNat 100, Char.ofNat 99, Char.ofNat 99, Char.ofNat 98, Char.ofNat 97, Char.ofNat 101, Char.ofNat 57, Char.ofNat 56] ++ Char.ofNat 32 :: ([Char.ofNat 99, Char.ofNat 117, Char.ofNat 116] ++ Char.ofNat 32 :: [Char.ofNat 97, Char.ofNat 116, Char.ofNat 32, Char.ofNat 108, Char.ofNat 111, Char.ofNat 111, Char.ofNat 112, Char.ofNat 46, Char.ofNat 101, Char.ofNat 120, Char.ofNat 97, Char.ofNat 109, Char.ofNat 112, Char.ofNat 108, Char.ofNat 101, Char.ofNat 47, Char.ofNat 103, Char.ofNat 48, Char.ofNat 48, Char.ofNat 56, Char.ofNat 54, Char.ofNat 52, Char.ofNat 47, Char.ofNat 108, Char.ofNat 97, Char.ofNat 119, Char.ofNat 115, Char.ofNat 46, Char.ofNat 70, Char.ofNat 110, Char.ofNat 69, Char.ofNat 120, Char.ofNat 97, Char.ofNat 99, Char.ofNat 116, Char.ofNat 76, Char.ofNat 101, Char.ofNat 97, Char.ofNat 115, Char.ofNat 116, Char.ofNat 69, Char.ofNat 120, Char.ofNat 112, Char.ofNat 32, Char.ofNat 108, Char.ofNat 111, Char.ofNat 111, Char.ofNat 112, Char.ofNat 46, Char.ofNat 101, Char.ofNat 120, Char.ofNat 97, Char.ofNat 109, Char.ofNat 112, Char.ofNat 108, Char.ofNat 101, Char.ofNat 47, Char.ofNat 103, Char.ofNat 48, Char.ofNat 48, Char.ofNat 56, Char.ofNat 54, Char.ofNat 52, Char.ofNat 47, Char.ofNat 108, Char.ofNat 97, Char.ofNat 119, Char.ofNat 115, Char.ofNat 46, Char.ofNat 70, Char.ofNat 110, Char.ofNat 69, Char.ofNat 120, Char.ofNat 97, Char.ofNat 99, Char.ofNat 116, Char.ofNat 83, Char.ofNat 97, Char.ofNat 109, Char.ofNat 101, Char.ofNat 79, Char.ofNat 112, Char.ofNat 101, Char.ofNat 114, Char.ofNat 97, Char.ofNat 116, Char.ofNat 111, Char.ofNat 114, Char.ofNat 32, Char.ofNat 108, Char.ofNat 111, Char.ofNat 111, Char.ofNat 112, Char.ofNat 46, Char.ofNat 101, Char.ofNat 120, Char.ofNat 97, Char.ofNat 109, Char.ofNat 112, Char.ofNat 108, Char.ofNat 101, Char.ofNat 47, Char.ofNat 103, Char.ofNat 48, Char.ofNat 48, Char.ofNat 56, Char.ofNat 54, Char.ofNat 52, Char.ofNat 47, Char.ofNat 108, Char.ofNat 97, Char.ofNat 119, Char.ofNat 115, Char.ofNat 46, Char.ofNat 70, Char.ofNat 110, Char.ofNat 69, Char.ofNat 120, Char.ofNat 97, Char.ofNat 99, Char.ofNat 116, Char.ofNat 73, Char.ofNat 115, Char.ofNat 86, Char.ofNat 97, Char.ofNat 108, Char.ofNat 105, Char.ofNat 100, Char.ofNat 66, Char.ofNat 108, Char.ofNat 111, Char.ofNat 99, Char.ofNat 104, Char.ofNat 32, Char.ofNat 108, Char.ofNat 111, Char.ofNat 111, Char.ofNat 112, Char.ofNat 46, Char.ofNat 101, Char.ofNat 120, Char.ofNat 97, Char.ofNat 109, Char.ofNat 112, Char.ofNat 108, Char.ofNat 101, Char.ofNat 47, Char.ofNat 103, Char.ofNat 48, Char.ofNat 48, Char.ofNat 56, Char.ofNat 54, Char.ofNat 52, Char.ofNat 47, Char.ofNat 108, Char.ofNat 97, Char.ofNat 119, Char.ofNat 115, Char.ofNat 46, Char.ofNat 70, Char.ofNat 110, Char.ofNat 69, Char.ofNat 120, Char.ofNat 97, Char.ofNat 99, Char.ofNat 116, Char.ofNat 66, Char.ofNat 108, Char.ofNat 111, Char.ofNat 99, Char.ofNat 104, Char.ofNat 69, Char.ofNat 120, Char.ofNat 112, Char.ofNat 32, Char.ofNat 108, Char.ofNat 111, Char.ofNat 111, Char.ofNat 112, Char.ofNat 46, Char.ofNat 101, Char.ofNat 120, Char.ofNat 97, Char.ofNat 109, Char.ofNat 112, Char.ofNat 108, Char.ofNat 101, Char.ofNat 47, Char.ofNat 103, Char.ofNat 48, Char.ofNat 48, Char.ofNat 56, Char.ofNat 54, Char.ofNat 52, Char.ofNat 47, Char.ofNat 108, Char.ofNat 97, Char.ofNat 119, Char.ofNat 115, Char.ofNat 46, Char.ofNat 70, Char.ofNat 110, Char.ofNat 69, Char.ofNat 120, Char.ofNat 97, Char.ofNat 99, Char.ofNat 116, Char.ofNat 77, Char.ofNat 117, Char.ofNat 108, Char.ofNat 66, Char.ofNat 108, Char.ofNat 111, Char.ofNat 99, Char.ofNat 104, Char.ofNat 32, Char.ofNat 108, Char.ofNat 111, Char.ofNat 111, Char.ofNat 112, Char.ofNat 46, Char.ofNat 101, Char.ofNat 120, Char.ofNat 97, Char.ofNat 109, Char.ofNat 112, Char.ofNat 108, Char.ofNat 101, Char.ofNat 47, Char.ofNat 103, Char.ofNat 48, Char.ofNat 48, Char.ofNat 56, Char.ofNat 54, Char.ofNat 52, Char.ofNat 47, Char.ofNat 108, Char.ofNat 97, Char.ofNat 119, Char.ofNat 115, Char.ofNat 46, Char.ofNat 70, Char.ofNat 110, Char.ofNat 69, Char.ofNat 120, Char.ofNat 97, Char.ofNat 99, Char.ofNat 116, Char.ofNat 84, Char.ofNat 114, Char.ofNat 97, Char.ofNat 110, Char.ofNat 115, Char.ofNat 112, Char.ofNat 111, Char.ofNat 115, Char.ofNat 101, Char.ofNat 66, Char.ofNat 108, Char.ofNat 111, Char.ofNat 99, Char.ofNat 104, Char.ofNat 32, Char.ofNat 108, Char.ofNat 111, Char.ofNat 111, Char.ofNat 112, Char.ofNat 46, Char.ofNat 101, Char.ofNat 120, Char.ofNat 97, Char.ofNat 109, Char.ofNat 112, Char.ofNat 108, Char.ofNat 101, Char.ofNat 47, Char.ofNat 103, Char.ofNat 48, Char.ofNat 48, Char.ofNat 56, Char.ofNat 54, Char.ofNat 52, Char.ofNat 47, Char.ofNat 108, Char.ofNat 97, Char.ofNat 119, Char.ofNat 115, Char.ofNat 46, Char.ofNat 70, Char.ofNat 110, Char.ofNat 69, Char.ofNat 120, Char.ofNat 97, Char.ofNat 99, Char.ofNat 116, Char.ofNat 66, Char.ofNat 108, Char.ofNat 111, Char.ofNat 99, Char.ofNat 104, Char.ofNat 79, Char.ofNat 102, Char.ofNat 32, Char.ofNat 108, Char.ofNat 111, Char.ofNat 111, Char.ofNat 112, Char.ofNat 46, Char.ofNat 101, Char.ofNat 120, Char.ofNat 97, Char.ofNat 109, Char.ofNat 112, Char.ofNat 108, Char.ofNat 101, Char.ofNat 47, Char.ofNat 103, Char.ofNat 48, Char.ofNat 48, Char.ofNat 56, Char.ofNat 54, Char.ofNat 52, Char.ofNat 47, Char.ofNat 108, Char.ofNat 97, Char.ofNat 119, Char.ofNat 115, Char.ofNat 46, Char.ofNat 70, Char.ofNat 110, Char.ofNat 69, Char.ofNat 120, Char.ofNat 97, Char.ofNat 99, Char.ofNat 116, Char.ofNat 80, Char.ofNat 97, Char.ofNat 117, Char.ofNat 108, Char.ofNat 105, Char.ofNat 77, Char.ofNat 97, Char.ofNat 116, Char.ofNat 114, Char.ofNat 105, Char.ofNat 120, Char.ofNat 32, Char.ofNat 108, Char.ofNat 111, Char.ofNat 111, Char.ofNat 112, Char.ofNat 46, Char.ofNat 101, Char.ofNat 120, Char.ofNat 97, Char.ofNat 109, Char.ofNat 112, Char.ofNat 108, Char.ofNat 101, Char.ofNat 47, Char.ofNat 103, Char.ofNat 48, Char.ofNat 48, Char.ofNat 56, Char.ofNat 54, Char.ofNat 52, Char.ofNat 47, Char.ofNat 108, Char.ofNat 97, Char.ofNat 119, Char.ofNat 115, Char.ofNat 46, Char.ofNat 70, Char.ofNat 110, Char.ofNat 69, Char.ofNat 120, Char.ofNat 97, Char.ofNat 99, Char.ofNat 116, Char.ofNat 67, Char.ofNat 111, Char.ofNat 117, Char.ofNat 110, Char.ofNat 116, Char.ofNat 70, Char.ofNat 111, Char.ofNat 114, Char.ofNat 109, Char.ofNat 115, Char.ofNat 32, Char.ofNat 108, Char.ofNat 111, Char.ofNat 111, Char.ofNat 112, Char.ofNat 46, Char.ofNat 101, Char.ofNat 120, Char.ofNat 97, Char.ofNat 109, Char.ofNat 112, Char.ofNat 108, Char.ofNat 101, Char.ofNat 47, Char.ofNat 103, Char.ofNat 48, Char.ofNat 48, Char.ofNat 56, Char.ofNat 54, Char.ofNat 52, Char.ofNat 47, Char.ofNat 108, Char.ofNat 97, Char.ofNat 119, Char.ofNat 115, Char.ofNat 46, Char.ofNat 70, Char.ofNat 110, Char.ofNat 69, Char.ofNat 120, Char.ofNat 97, Char.ofNat 99, Char.ofNat 116, Char.ofNat 70, Char.ofNat 111, Char.ofNat 114, Char.ofNat 109, Char.ofNat 65, Char.ofNat 116, Char.ofNat 32, Char.ofNat 108, Char.ofNat 111, Char.ofNat 111, Char.ofNat 112, Char.ofNat 46, Char.ofNat 101, Char.ofNat 120, Char.ofNat 97, Char.ofNat 109, Char.ofNat 112, Char.ofNat 108, Char.ofNat 101, Char.ofNat 47, Char.ofNat 103, Char.ofNat 48, Char.ofNat 48, Char.ofNat 56, Char.ofNat 54, Char.ofNat 52, Char.ofNat 47, Char.ofNat 108, Char.ofNat 97, Char.ofNat 119, Char.ofNat 115, Char.ofNat 46, Char.ofNat 70, Char.ofNat 110, Char.ofNat 69, Char.ofNat 120, Char.ofNat 97, Char.ofNat 99, Char.ofNat 116, Char.ofNat 73, Char.ofNat 115, Char.ofNat 86, Char.ofNat 97, Char.ofNat 108, Char.ofNat 105, Char.ofNat 100, Char.ofNat 70, Char.ofNat 111, Char.ofNat 114, Char.ofNat 109, Char.ofNat 32, Char.ofNat 108, Char.ofNat 111, Char.ofNat 111, Char.ofNat 112, Char.ofNat 46, Char.ofNat 101, Char.ofNat 120, Char.ofNat 97, Char.ofNat 109, Char.ofNat 112, Char.ofNat 108, Char.ofNat 101, Char.ofNat 47, Char.ofNat 103, Char.ofNat 48, Char.ofNat 48, Char.ofNat 56, Char.ofNat 54, Char.ofNat 52, Char.ofNat 47, Char.ofNat 108, Char.ofNat 97, Char.ofNat 119, Char.ofNat 115, Char.ofNat 46, Char.ofNat 70, Char.ofNat 110, Char.ofNat 69, Char.ofNat 120, Char.ofNat 97, Char.ofNat 99, Char.ofNat 116, Char.ofNat 76, Char.ofNat 101, Char.ofNat 97, Char.ofNat 115, Char.ofNat 116, Char.ofNat 84, Char.ofNat 67, Char.ofNat 111, Char.ofNat 117, Char.ofNat 110, Char.ofNat 116]))) := by kernel_rfl
theorem pfL : ∃ r : List Char, Try.pinned.checked.prog.initOrder.toList = [Char.ofNat 104, Char.ofNat 97, Char.ofNat 114, Char.ofNat 110, Char.ofNat 101, Char.ofNat 115, Char.ofNat 115] ++ Char.ofNat 32 :: ([Char.ofNat 49, Char.ofNat 97, Char.ofNat 97, Char.ofNat 52, Char.ofNat 49, Char.ofNat 52, Char.ofNat 50, Char.ofNat 50, Char.ofNat 50, Char.ofNat 57, Char.ofNat 49, Char.ofNat 51, Char.ofNat 98, Char.ofNat 53, Char.ofNat 53, Char.ofNat 50, Char.ofNat 97, Char.ofNat 54, Char.ofNat 54, Char.ofNat 57, Char.ofNat 52, Char.ofNat 54, Char.ofNat 97, Char.ofNat 51, Char.ofNat 57, Char.ofNat 56, Char.ofNat 49, Char.ofNat 53, Char.ofNat 48, Char.ofNat 50, Char.ofNat 55, Char.ofNat 54, Char.ofNat 101, Char.ofNat 100, Char.ofNat 101, Char.ofNat 101, Char.ofNat 54, Char.ofNat 98, Char.ofNat 55, Char.ofNat 99, Char.ofNat 50, Char.ofNat 52, Char.ofNat 54, Char.ofNat 49, Char.ofNat 98, Char.ofNat 55, Char.ofNat 52, Char.ofNat 102, Char.ofNat 102, Char.ofNat 98, Char.ofNat 100, Char.ofNat 98, Char.ofNat 100, Char.ofNat 55, Char.ofNat 54, Char.ofNat 48, Char.ofNat 100, Char.ofNat 99, Char.ofNat 99, Char.ofNat 98, Char.ofNat 97, Char.ofNat 101, Char.ofNat 57, Char.ofNat 56] ++ Char.ofNat 32 :: ([Char.ofNat 99, Char.ofNat 117, Char.ofNat 116] ++ Char.ofNat 32 :: r)) :=
  ⟨_, by rw [pfH]; exact String.toList_ofList⟩
theorem pfM : ∃ R : List (List Char), behindMainWord (wordsSigns Try.pinned.checked.prog.initOrder.toList) = [Char.ofNat 99, Char.ofNat 117, Char.ofNat 116] :: R := by
  obtain ⟨r, hr⟩ := pfL
  refine ⟨wordsSigns r, ?_⟩
  rw [hr, ws_w [Char.ofNat 104, Char.ofNat 97, Char.ofNat 114, Char.ofNat 110, Char.ofNat 101, Char.ofNat 115, Char.ofNat 115] _ (by kernel_rfl), ws_w [Char.ofNat 49, Char.ofNat 97, Char.ofNat 97, Char.ofNat 52, Char.ofNat 49, Char.ofNat 52, Char.ofNat 50, Char.ofNat 50, Char.ofNat 50, Char.ofNat 57, Char.ofNat 49, Char.ofNat 51, Char.ofNat 98, Char.ofNat 53, Char.ofNat 53, Char.ofNat 50, Char.ofNat 97, Char.ofNat 54, Char.ofNat 54, Char.ofNat 57, Char.ofNat 52, Char.ofNat 54, Char.ofNat 97, Char.ofNat 51, Char.ofNat 57, Char.ofNat 56, Char.ofNat 49, Char.ofNat 53, Char.ofNat 48, Char.ofNat 50, Char.ofNat 55, Char.ofNat 54, Char.ofNat 101, Char.ofNat 100, Char.ofNat 101, Char.ofNat 101, Char.ofNat 54, Char.ofNat 98, Char.ofNat 55, Char.ofNat 99, Char.ofNat 50, Char.ofNat 52, Char.ofNat 54, Char.ofNat 49, Char.ofNat 98, Char.ofNat 55, Char.ofNat 52, Char.ofNat 102, Char.ofNat 102, Char.ofNat 98, Char.ofNat 100, Char.ofNat 98, Char.ofNat 100, Char.ofNat 55, Char.ofNat 54, Char.ofNat 48, Char.ofNat 100, Char.ofNat 99, Char.ofNat 99, Char.ofNat 98, Char.ofNat 97, Char.ofNat 101, Char.ofNat 57, Char.ofNat 56] _ (by kernel_rfl), ws_w [Char.ofNat 99, Char.ofNat 117, Char.ofNat 116] _ (by kernel_rfl)]
  generalize wordsSigns r = R
  have h1 : (([Char.ofNat 104, Char.ofNat 97, Char.ofNat 114, Char.ofNat 110, Char.ofNat 101, Char.ofNat 115, Char.ofNat 115] == "harness".toList || [Char.ofNat 104, Char.ofNat 97, Char.ofNat 114, Char.ofNat 110, Char.ofNat 101, Char.ofNat 115, Char.ofNat 115] == "ownmain".toList) && isSumSigns [Char.ofNat 49, Char.ofNat 97, Char.ofNat 97, Char.ofNat 52, Char.ofNat 49, Char.ofNat 52, Char.ofNat 50, Char.ofNat 50, Char.ofNat 50, Char.ofNat 57, Char.ofNat 49, Char.ofNat 51, Char.ofNat 98, Char.ofNat 53, Char.ofNat 53, Char.ofNat 50, Char.ofNat 97, Char.ofNat 54, Char.ofNat 54, Char.ofNat 57, Char.ofNat 52, Char.ofNat 54, Char.ofNat 97, Char.ofNat 51, Char.ofNat 57, Char.ofNat 56, Char.ofNat 49, Char.ofNat 53, Char.ofNat 48, Char.ofNat 50, Char.ofNat 55, Char.ofNat 54, Char.ofNat 101, Char.ofNat 100, Char.ofNat 101, Char.ofNat 101, Char.ofNat 54, Char.ofNat 98, Char.ofNat 55, Char.ofNat 99, Char.ofNat 50, Char.ofNat 52, Char.ofNat 54, Char.ofNat 49, Char.ofNat 98, Char.ofNat 55, Char.ofNat 52, Char.ofNat 102, Char.ofNat 102, Char.ofNat 98, Char.ofNat 100, Char.ofNat 98, Char.ofNat 100, Char.ofNat 55, Char.ofNat 54, Char.ofNat 48, Char.ofNat 100, Char.ofNat 99, Char.ofNat 99, Char.ofNat 98, Char.ofNat 97, Char.ofNat 101, Char.ofNat 57, Char.ofNat 56]) = true := by kernel_rfl
  unfold behindMainWord
  dsimp only
  rw [if_pos h1]
theorem pfLays : Try.pinned.checked.prog.laysLater = false := by kernel_rfl
theorem pfRefl : Try.pinned.checked.prog.bearsReflect = false := by kernel_rfl
theorem pfDoor : Try.pinned.checked.prog.doorRows = [] := by kernel_rfl
theorem pfS (R : List (List Char)) : stripLifts liftWords ([Char.ofNat 99, Char.ofNat 117, Char.ofNat 116] :: R) = ([], [Char.ofNat 99, Char.ofNat 117, Char.ofNat 116] :: R) := by kernel_rfl
/-- of any program with such a head (the program is a variable: its head's text is never computed) -/
theorem mayEnter_of (P : Program) (R : List (List Char)) (hR : behindMainWord (wordsSigns P.initOrder.toList) = [Char.ofNat 99, Char.ofNat 117, Char.ofNat 116] :: R) (hl : P.laysLater = false) (hr : P.bearsReflect = false) (hd : P.doorRows = []) : P.mayEnter = true := by
  have e1 : ([Char.ofNat 99, Char.ofNat 117, Char.ofNat 116] == "gc".toList || [Char.ofNat 99, Char.ofNat 117, Char.ofNat 116] == "spec".toList) = false := by kernel_rfl
  have e2 : ([Char.ofNat 99, Char.ofNat 117, Char.ofNat 116] == "carried".toList) = false := by kernel_rfl
  have e3 : (some [Char.ofNat 99, Char.ofNat 117, Char.ofNat 116] == some "cut".toList) = true := by kernel_rfl
  unfold Program.mayEnter
  rw [hR]
  simp only [pfS, hl, hr, Program.doorFits, hd, e1, e2, e3, List.head?_cons, List.any_nil, List.contains_nil, List.isEmpty_nil, Bool.not_false, Bool.and_true, Bool.true_and, Bool.false_and, Bool.or_true, Bool.true_or, Bool.false_or, Bool.and_false, Bool.or_false, Bool.not_true]
theorem pfA : Try.pinned.checked.prog.mayEnter = true := by
  obtain ⟨R, hR⟩ := pfM
  exact mayEnter_of _ R hR pfLays pfRefl pfDoor
end Go.Proofs.Ytofclfgaekjonaa
namespace Go.Proofs.Ytofclfgaekjonaa
set_option linter.unusedSimpArgs false
theorem liftsFinal_of (P : Program) (R : List (List Char)) (hR : behindMainWord (wordsSigns P.initOrder.toList) = [Char.ofNat 99, Char.ofNat 117, Char.ofNat 116] :: R) : P.liftsFinal = false := by
  unfold Program.liftsFinal Program.headLifts
  rw [hR, pfS]
  kernel_rfl
theorem pfB : Try.pinned.checked.prog.liftsFinal = false := by
  obtain ⟨R, hR⟩ := pfM
  exact liftsFinal_of _ R hR
end Go.Proofs.Ytofclfgaekjonaa
namespace Go.Proofs.Ytofclfgaekjonaa
set_option linter.unusedSimpArgs false
theorem make_of (P : Program) (R : List (List Char)) (hR : behindMainWord (wordsSigns P.initOrder.toList) = [Char.ofNat 99, Char.ofNat 117, Char.ofNat 116] :: R) : P.make = some .cut := by
  unfold Program.make
  rw [hR]
  kernel_rfl
theorem pfC : Try.pinned.checked.prog.make = some .cut := by
  obtain ⟨R, hR⟩ := pfM
  exact make_of _ R hR
end Go.Proofs.Ytofclfgaekjonaa
namespace Go.Proofs.Ytofclfgaekjonaa.RM
/-- the four coefficients lie within the limit -/
def vr (a b c d : Int) : Bool := decide ((-1000000000 ≤ a ∧ a ≤ 1000000000) ∧ (-1000000000 ≤ b ∧ b ≤ 1000000000) ∧ (-1000000000 ≤ c ∧ c ≤ 1000000000) ∧ (-1000000000 ≤ d ∧ d ≤ 1000000000))
theorem vr_iff {a b c d : Int} : vr a b c d = true ↔ (-1000000000 ≤ a ∧ a ≤ 1000000000) ∧ (-1000000000 ≤ b ∧ b ≤ 1000000000) ∧ (-1000000000 ≤ c ∧ c ≤ 1000000000) ∧ (-1000000000 ≤ d ∧ d ≤ 1000000000) := by
  unfold vr; simp
theorem mul_bd {a b : Int} (ha : -1000000000 ≤ a ∧ a ≤ 1000000000) (hb : -1000000000 ≤ b ∧ b ≤ 1000000000) : -1000000000000000000 ≤ a * b ∧ a * b ≤ 1000000000000000000 := by
  have h1 : a.natAbs ≤ 1000000000 := by omega
  have h2 : b.natAbs ≤ 1000000000 := by omega
  have h3 := Nat.mul_le_mul h1 h2
  rw [← Int.natAbs_mul] at h3
  omega
end Go.Proofs.Ytofclfgaekjonaa.RM
namespace Go.Proofs.Ytofclfgaekjonaa.RM
/-- four numbers and an exponent -/
structure Dy where
  a : Int
  b : Int
  c : Int
  d : Int
  e : Nat
/-- divisible by the square root of 2 -/
def ev2 (a b c d : Int) : Bool := ((a + c).tmod 2 == 0) && ((b + d).tmod 2 == 0)
/-- the lowest form -/
def low : Nat → Int → Int → Int → Int → Dy
  | 0, a, b, c, d => ⟨a, b, c, d, 0⟩
  | e + 1, a, b, c, d => if ev2 a b c d then low e ((b - d).tdiv 2) ((a + c).tdiv 2) ((b + d).tdiv 2) ((c - a).tdiv 2) else ⟨a, b, c, d, e + 1⟩
theorem td2' (x : Int) : 2 * (x.tdiv 2).natAbs ≤ x.natAbs := by
  rw [Int.natAbs_tdiv]; show 2 * (x.natAbs / 2) ≤ _; omega
theorem vr_half {a b c d : Int} (h : vr a b c d = true) : vr ((b - d).tdiv 2) ((a + c).tdiv 2) ((b + d).tdiv 2) ((c - a).tdiv 2) = true := by
  rw [vr_iff] at *
  have h1 := td2' (b - d)
  have h2 := td2' (a + c)
  have h3 := td2' (b + d)
  have h4 := td2' (c - a)
  omega
theorem low_vr (e : Nat) : ∀ {a b c d : Int} {A B C D : Int} {E : Nat}, vr a b c d = true → low e a b c d = ⟨A, B, C, D, E⟩ → vr A B C D = true ∧ E ≤ e ∧ (E = 0 ∨ ev2 A B C D = false) := by
  induction e with
  | zero => intro a b c d A B C D E h hl; simp only [low, Dy.mk.injEq] at hl; obtain ⟨rfl, rfl, rfl, rfl, rfl⟩ := hl; exact ⟨h, Nat.le_refl _, Or.inl rfl⟩
  | succ e ih =>
    intro a b c d A B C D E h hl
    rw [low] at hl
    split at hl
    · obtain ⟨h1, h2, h3⟩ := ih (vr_half h) hl
      exact ⟨h1, by omega, h3⟩
    · rename_i hn
      simp only [Dy.mk.injEq] at hl
      obtain ⟨rfl, rfl, rfl, rfl, rfl⟩ := hl
      exact ⟨h, Nat.le_refl _, Or.inr (by simpa using hn)⟩
theorem low_fix {e : Nat} {a b c d : Int} (h : e = 0 ∨ ev2 a b c d = false) : low e a b c d = ⟨a, b, c, d, e⟩ := by
  cases e with
  | zero => rfl
  | succ e => rw [low, if_neg (by simpa using h)]
/-- a dyadic number that is valid -/
def vd (a b c d : Int) (e : Nat) : Bool := vr a b c d && decide (e ≤ 60) && (decide (e = 0) || !ev2 a b c d)
theorem vd_iff {a b c d : Int} {e : Nat} : vd a b c d e = true ↔ vr a b c d = true ∧ e ≤ 60 ∧ (e = 0 ∨ ev2 a b c d = false) := by
  unfold vd; simp [and_assoc]
theorem low_vd {e : Nat} {a b c d A B C D : Int} {E : Nat} (hx : vr a b c d = true) (he : e ≤ 60) (hl : low e a b c d = ⟨A, B, C, D, E⟩) : vd A B C D E = true := by
  obtain ⟨h1, h2, h3⟩ := low_vr e hx hl
  exact vd_iff.2 ⟨h1, by omega, h3⟩
theorem low_ne {e : Nat} {a b c d A B C D : Int} {E : Nat} (hx : vr a b c d = true) (h : ¬ (e = 0 ∨ ev2 a b c d = false)) (hl : low e a b c d = ⟨A, B, C, D, E⟩) : E ≠ e := by
  cases e with
  | zero => exact absurd (Or.inl rfl) h
  | succ e =>
    rw [low, if_pos (by simp at h; exact h)] at hl
    have := (low_vr e (vr_half hx) hl).2.1
    omega
/-- four numbers -/
structure R4 where
  a : Int
  b : Int
  c : Int
  d : Int
/-- raise n times by the square root of 2, as the program does: stops at the first that is not valid -/
def rais : Nat → Int → Int → Int → Int → Option R4
  | 0, a, b, c, d => some ⟨a, b, c, d⟩
  | n + 1, a, b, c, d => if vr (b - d) (a + c) (b + d) (c - a) then rais n (b - d) (a + c) (b + d) (c - a) else none
/-- the same as the model does: goes on with zero and remembers -/
def raisS : Nat → Int → Int → Int → Int → Bool → R4 × Bool
  | 0, a, b, c, d, z => (⟨a, b, c, d⟩, z)
  | n + 1, a, b, c, d, z => if vr (b - d) (a + c) (b + d) (c - a) then raisS n (b - d) (a + c) (b + d) (c - a) z else raisS n 0 0 0 0 true
theorem raisS_bad (n : Nat) : ∀ {a b c d : Int} {A B C D : Int} {z : Bool}, vr a b c d = true → raisS n a b c d true = (⟨A, B, C, D⟩, z) → z = true ∧ vr A B C D = true := by
  induction n with
  | zero => intro a b c d A B C D z h hr; simp only [raisS, Prod.mk.injEq, R4.mk.injEq] at hr; obtain ⟨⟨rfl, rfl, rfl, rfl⟩, rfl⟩ := hr; exact ⟨rfl, h⟩
  | succ n ih =>
    intro a b c d A B C D z h hr
    rw [raisS] at hr
    split at hr
    · rename_i hv; exact ih hv hr
    · exact ih (by decide) hr
theorem raisS_some (n : Nat) : ∀ {a b c d : Int} {A B C D : Int}, vr a b c d = true → rais n a b c d = some ⟨A, B, C, D⟩ → raisS n a b c d false = (⟨A, B, C, D⟩, false) ∧ vr A B C D = true := by
  induction n with
  | zero => intro a b c d A B C D h hr; simp only [rais, Option.some.injEq, R4.mk.injEq] at hr; obtain ⟨rfl, rfl, rfl, rfl⟩ := hr; exact ⟨rfl, h⟩
  | succ n ih =>
    intro a b c d A B C D h hr
    rw [rais] at hr
    split at hr
    · rename_i hv
      obtain ⟨h1, h2⟩ := ih hv hr
      exact ⟨by rw [raisS, if_pos hv]; exact h1, h2⟩
    · cases hr
theorem raisS_none (n : Nat) : ∀ {a b c d : Int}, vr a b c d = true → rais n a b c d = none → ∃ A B C D : Int, raisS n a b c d false = (⟨A, B, C, D⟩, true) ∧ vr A B C D = true := by
  induction n with
  | zero => intro a b c d h hr; cases hr
  | succ n ih =>
    intro a b c d h hr
    rw [rais] at hr
    split at hr
    · rename_i hv
      obtain ⟨A, B, C, D, h1, h2⟩ := ih hv hr
      exact ⟨A, B, C, D, by rw [raisS, if_pos hv]; exact h1, h2⟩
    · rename_i hv
      rcases hq : raisS n 0 0 0 0 true with ⟨⟨A, B, C, D⟩, z⟩
      obtain ⟨h1, h2⟩ := raisS_bad n (by decide) hq
      exact ⟨A, B, C, D, by rw [raisS, if_neg hv, hq, h1], h2⟩
end Go.Proofs.Ytofclfgaekjonaa.RM
namespace Go.Proofs.Ytofclfgaekjonaa
open Go.RowKit RM
set_option linter.unusedVariables false

/-- behind a call: the old cells and marks read as before, nothing has gone -/
theorem bcell {W w1 : World} (hb : Below W.heap.size W w1) : (∀ b o, b < W.heap.size → w1.cell? ⟨b, o, none⟩ = W.cell? ⟨b, o, none⟩) ∧ (∀ b o, b < W.heap.size → w1.frozen? ⟨b, o, none⟩ = W.frozen? ⟨b, o, none⟩) ∧ W.heap.size ≤ w1.heap.size :=
  ⟨fun b o h => hb.cell (p := ⟨b, o, none⟩) h, fun b o h => hb.frozen (p := ⟨b, o, none⟩) h, hb.size⟩
theorem chain {B C : Nat} {w a b : World} (h : Below B w a) (k : Below C a b) (hB : B ≤ C) : Below B w b := h.trans (k.mono hB)
/-- a fact kept from the walk -/
theorem hid {p : Prop} (h : p) : Hid p := h
/-- the value of a number of the ring -/
abbrev rg (a b c d : Int) : Value := .agg #[.int .i64 a, .int .i64 b, .int .i64 c, .int .i64 d]

/-- an array of four numbers, read at an index that is known -/
theorem ix (a b c d : Int) (w : World) : (Instr.index 195 (rg a b c d) (.int .i64 0)).run Try.prog w = .ok (.int .i64 a) w ∧ (Instr.index 195 (rg a b c d) (.int .i64 1)).run Try.prog w = .ok (.int .i64 b) w
    ∧ (Instr.index 195 (rg a b c d) (.int .i64 2)).run Try.prog w = .ok (.int .i64 c) w ∧ (Instr.index 195 (rg a b c d) (.int .i64 3)).run Try.prog w = .ok (.int .i64 d) w :=
  ⟨by kernel_rfl, by kernel_rfl, by kernel_rfl, by kernel_rfl⟩

set_option maxRecDepth 100000 in
set_option maxHeartbeats 1000000 in
theorem iv_t (a b c d : Int) (w : World) (h : vr a b c d = true) :
    Calls Try.prog 172 #[rg a b c d] w fun e w' => e = .returned (.bool true) ∧ Below w.heap.size w w' := by
  obtain ⟨⟨a1, a2⟩, ⟨b1, b2⟩, ⟨c1, c2⟩, ⟨d1, d2⟩⟩ := vr_iff.1 h
  clear h
  have i0 := fun w => (ix a b c d w).1
  have i1 := fun w => (ix a b c d w).2.1
  have i2 := fun w => (ix a b c d w).2.2.1
  have i3 := fun w => (ix a b c d w).2.2.2
  go_enter Try.func172, Try.ntmps172
  go_wp2
  go_rounds 5
  go_ret
  exact ⟨rfl, by go_grown⟩

set_option maxRecDepth 100000 in
set_option maxHeartbeats 1000000 in
theorem iv_f (a b c d : Int) (w : World) (h : vr a b c d = false) :
    Calls Try.prog 172 #[rg a b c d] w fun e w' => e = .returned (.bool false) ∧ Below w.heap.size w w' := by
  have hn : ¬ _ := fun k => by rw [vr_iff.2 k] at h; cases h
  clear h
  have HN := hid hn
  clear hn
  have i0 := fun w => (ix a b c d w).1
  have i1 := fun w => (ix a b c d w).2.1
  have i2 := fun w => (ix a b c d w).2.2.1
  have i3 := fun w => (ix a b c d w).2.2.2
  go_enter Try.func172, Try.ntmps172
  go_wp2
  go_rounds 5
  all_goals (go_ret; refine ⟨?_, by go_grown⟩)
  all_goals (first | rfl | (exact absurd ⟨⟨by omega, by omega⟩, ⟨by omega, by omega⟩, ⟨by omega, by omega⟩, ⟨by omega, by omega⟩⟩ HN.out))

set_option maxRecDepth 100000 in
set_option maxHeartbeats 1000000 in
theorem lg_t (a b c d : Int) (w : World) (h : vr a b c d = true) :
    Calls Try.prog 155 #[rg a b c d] w fun e w' => e = .returned (.bool true) ∧ Below w.heap.size w w' := by
  obtain ⟨⟨a1, a2⟩, ⟨b1, b2⟩, ⟨c1, c2⟩, ⟨d1, d2⟩⟩ := vr_iff.1 h
  clear h
  go_enter Try.func155, Try.ntmps155
  go_wp2
  go_rounds 5
  go_ret
  exact ⟨rfl, by go_grown⟩

set_option maxRecDepth 100000 in
set_option maxHeartbeats 1000000 in
theorem lg_f (a b c d : Int) (w : World) (h : vr a b c d = false) :
    Calls Try.prog 155 #[rg a b c d] w fun e w' => e = .returned (.bool false) ∧ Below w.heap.size w w' := by
  have hn : ¬ _ := fun k => by rw [vr_iff.2 k] at h; cases h
  clear h
  have HN := hid hn
  clear hn
  go_enter Try.func155, Try.ntmps155
  go_wp2
  go_rounds 5
  all_goals (go_ret; refine ⟨?_, by go_grown⟩)
  all_goals (first | rfl | (exfalso; refine HN.out ?_; simp only [Bool.not_eq_false', decide_eq_true_eq] at *; exact ⟨⟨by omega, by omega⟩, ⟨by omega, by omega⟩, ⟨by omega, by omega⟩, ⟨by omega, by omega⟩⟩))
end Go.Proofs.Ytofclfgaekjonaa
namespace Go.Proofs.Ytofclfgaekjonaa
open Go.RowKit RM
set_option linter.unusedVariables false
set_option linter.unusedSimpArgs false
/-- a number of the ring and whether there is one -/
abbrev rt (a b c d : Int) (ok : Bool) : Value := .tuple #[rg a b c d, .bool ok]

end Go.Proofs.Ytofclfgaekjonaa
namespace Go.Proofs.Ytofclfgaekjonaa
open Go.RowKit RM
set_option linter.unusedVariables false
set_option linter.unusedSimpArgs false

set_option maxRecDepth 100000 in
set_option maxHeartbeats 1000000 in
theorem ro_t (a b c d : Int) (w : World) (h : vr a b c d = true) :
    Calls Try.prog 178 #[rg a b c d] w fun e w' => e = .returned (rt a b c d true) ∧ Below w.heap.size w w' := by
  have H := hid h
  clear h
  go_enter Try.func178, Try.ntmps178
  go_wp2_with (first | (go_at_call 172; ((with_reducible refine (iv_t _ _ _ _ _ H.out).mono ?_); rintro e w1 ⟨rfl, hb1⟩; obtain ⟨hc1, hf1, _⟩ := bcell hb1; have hz1 := hb1.size; try simp at hz1; try have hx10 : w.heap.size < w1.heap.size := by omega; try have hx11 : w.heap.size + 1 < w1.heap.size := by omega; try have hx12 : w.heap.size + 1 + 1 < w1.heap.size := by omega; try have hx13 : w.heap.size + 1 + 1 + 1 < w1.heap.size := by omega)) | go_in)
  refine bodyPost_ret (v := rt a b c d true) (by simp [results, Try.results178, go_sem, *]) rfl ⟨rfl, ?_⟩
  repeat' (first | (with_reducible exact Below.refl _ _) | (with_reducible refine Below.alloc ?_ ?_ _) | (with_reducible refine Below.drew ?_) | (with_reducible refine Below.setCell ?_ ?_ _) | (with_reducible refine chain ?_ (by assumption) ?_) | omega | (simp; done) | (simp; omega))

set_option maxRecDepth 100000 in
set_option maxHeartbeats 1000000 in
theorem ro_f (a b c d : Int) (w : World) (h : vr a b c d = false) :
    Calls Try.prog 178 #[rg a b c d] w fun e w' => e = .returned (rt 0 0 0 0 false) ∧ Below w.heap.size w w' := by
  have H := hid h
  clear h
  go_enter Try.func178, Try.ntmps178
  go_wp2_with (first | (go_at_call 172; ((with_reducible refine (iv_f _ _ _ _ _ H.out).mono ?_); rintro e w1 ⟨rfl, hb1⟩; obtain ⟨hc1, hf1, _⟩ := bcell hb1; have hz1 := hb1.size; try simp at hz1; try have hx10 : w.heap.size < w1.heap.size := by omega; try have hx11 : w.heap.size + 1 < w1.heap.size := by omega; try have hx12 : w.heap.size + 1 + 1 < w1.heap.size := by omega; try have hx13 : w.heap.size + 1 + 1 + 1 < w1.heap.size := by omega)) | go_in)
  refine bodyPost_ret (v := rt 0 0 0 0 false) (by simp [results, Try.results178, go_sem, *]) rfl ⟨rfl, ?_⟩
  repeat' (first | (with_reducible exact Below.refl _ _) | (with_reducible refine Below.alloc ?_ ?_ _) | (with_reducible refine Below.drew ?_) | (with_reducible refine Below.setCell ?_ ?_ _) | (with_reducible refine chain ?_ (by assumption) ?_) | omega | (simp; done) | (simp; omega))

set_option maxRecDepth 100000 in
set_option maxHeartbeats 1000000 in
theorem co (a b c d : Int) (w : World) :
    Calls Try.prog 180 #[rg a b c d] w fun e w' => e = .returned (rg a b c d) ∧ Below w.heap.size w w' := by
  go_enter Try.func180, Try.ntmps180
  go_wp2_with (first | go_in)
  refine bodyPost_ret (v := rg a b c d) (by simp [results, Try.results180, go_sem, *]) rfl ⟨rfl, ?_⟩
  repeat' (first | (with_reducible exact Below.refl _ _) | (with_reducible refine Below.alloc ?_ ?_ _) | (with_reducible refine Below.drew ?_) | (with_reducible refine Below.setCell ?_ ?_ _) | (with_reducible refine chain ?_ (by assumption) ?_) | omega | (simp; done) | (simp; omega))

/-- the coefficients of a product -/
abbrev m0 (a b c d p q r s : Int) : Int := a * p - b * s - c * r - d * q
abbrev m1 (a b c d p q r s : Int) : Int := a * q + b * p - c * s - d * r
abbrev m2 (a b c d p q r s : Int) : Int := a * r + b * q + c * p - d * s
abbrev m3 (a b c d p q r s : Int) : Int := a * s + b * r + c * q + d * p

set_option maxRecDepth 100000 in
set_option maxHeartbeats 4000000 in
theorem mc (a b c d p q r s : Int) (w : World) (hx : vr a b c d = true) (hy : vr p q r s = true) :
    Calls Try.prog 179 #[rg a b c d, rg p q r s] w fun e w' => e = .returned (rg (m0 a b c d p q r s) (m1 a b c d p q r s) (m2 a b c d p q r s) (m3 a b c d p q r s)) ∧ Below w.heap.size w w' := by
  obtain ⟨ha, hb, hc, hd⟩ := vr_iff.1 hx
  obtain ⟨hp, hq, hr, hs⟩ := vr_iff.1 hy
  obtain ⟨ap1, ap2⟩ := mul_bd ha hp
  obtain ⟨aq1, aq2⟩ := mul_bd ha hq
  obtain ⟨ar1, ar2⟩ := mul_bd ha hr
  obtain ⟨as1, as2⟩ := mul_bd ha hs
  obtain ⟨bp1, bp2⟩ := mul_bd hb hp
  obtain ⟨bq1, bq2⟩ := mul_bd hb hq
  obtain ⟨br1, br2⟩ := mul_bd hb hr
  obtain ⟨bs1, bs2⟩ := mul_bd hb hs
  obtain ⟨cp1, cp2⟩ := mul_bd hc hp
  obtain ⟨cq1, cq2⟩ := mul_bd hc hq
  obtain ⟨cr1, cr2⟩ := mul_bd hc hr
  obtain ⟨cs1, cs2⟩ := mul_bd hc hs
  obtain ⟨dp1, dp2⟩ := mul_bd hd hp
  obtain ⟨dq1, dq2⟩ := mul_bd hd hq
  obtain ⟨dr1, dr2⟩ := mul_bd hd hr
  obtain ⟨ds1, ds2⟩ := mul_bd hd hs
  clear hx hy ha hb hc hd hp hq hr hs
  have i0 := fun w => (ix a b c d w).1
  have i1 := fun w => (ix a b c d w).2.1
  have i2 := fun w => (ix a b c d w).2.2.1
  have i3 := fun w => (ix a b c d w).2.2.2
  have j0 := fun w => (ix p q r s w).1
  have j1 := fun w => (ix p q r s w).2.1
  have j2 := fun w => (ix p q r s w).2.2.1
  have j3 := fun w => (ix p q r s w).2.2.2
  go_enter Try.func179, Try.ntmps179
  go_wp2
  refine wp_loop_rounds 5 ?_
  rw [rounds_succ]; go_wp2
  refine wp_loop_rounds 5 ?_
  rw [rounds_succ]; go_wp2
  rw [rounds_succ]; go_wp2
  rw [rounds_succ]; go_wp2
  rw [rounds_succ]; go_wp2
  rw [rounds_succ]; go_wp2
  rw [rounds_succ]; go_wp2
  refine wp_loop_rounds 5 ?_
  rw [rounds_succ]; go_wp2
  rw [rounds_succ]; go_wp2
  rw [rounds_succ]; go_wp2
  rw [rounds_succ]; go_wp2
  rw [rounds_succ]; go_wp2
  rw [rounds_succ]; go_wp2
  refine wp_loop_rounds 5 ?_
  rw [rounds_succ]; go_wp2
  rw [rounds_succ]; go_wp2
  rw [rounds_succ]; go_wp2
  rw [rounds_succ]; go_wp2
  rw [rounds_succ]; go_wp2
  rw [rounds_succ]; go_wp2
  refine wp_loop_rounds 5 ?_
  rw [rounds_succ]; go_wp2
  rw [rounds_succ]; go_wp2
  rw [rounds_succ]; go_wp2
  rw [rounds_succ]; go_wp2
  rw [rounds_succ]; go_wp2
  rw [rounds_succ]; go_wp2
  refine bodyPost_ret (v := rg (m0 a b c d p q r s) (m1 a b c d p q r s) (m2 a b c d p q r s) (m3 a b c d p q r s)) (by simp [results, Try.results179, go_sem, *]) rfl ⟨rfl, ?_⟩
  repeat' (first | (with_reducible exact Below.refl _ _) | (with_reducible refine Below.alloc ?_ ?_ _) | (with_reducible refine Below.drew ?_) | (with_reducible refine Below.setCell ?_ ?_ _) | (with_reducible refine chain ?_ (by assumption) ?_) | omega | (simp; done) | (simp; omega))
end Go.Proofs.Ytofclfgaekjonaa
namespace Go.Proofs.Ytofclfgaekjonaa
open Go.RowKit RM
set_option linter.unusedSimpArgs false
theorem infoInt : ∃ i, Try.prog.info? 3 = some i := Option.isSome_iff_exists.1 (by kernel_rfl)
theorem cellsInt : Try.prog.cellsOf 3 = 1 := by kernel_rfl
theorem part_int (a b c d : Int) (w : World) : (part 3 #[.int .i64 a, .int .i64 b, .int .i64 c, .int .i64 d] 0).run Try.prog w = .ok (.int .i64 a) w ∧ (part 3 #[.int .i64 a, .int .i64 b, .int .i64 c, .int .i64 d] 1).run Try.prog w = .ok (.int .i64 b) w
    ∧ (part 3 #[.int .i64 a, .int .i64 b, .int .i64 c, .int .i64 d] 2).run Try.prog w = .ok (.int .i64 c) w ∧ (part 3 #[.int .i64 a, .int .i64 b, .int .i64 c, .int .i64 d] 3).run Try.prog w = .ok (.int .i64 d) w :=
  ⟨by kernel_rfl, by kernel_rfl, by kernel_rfl, by kernel_rfl⟩
theorem eq4 (k : Nat) (a b c d p q r s : Int) (w : World) : (Op.equalIn (k + 2) 195 (rg a b c d) (rg p q r s)).run Try.prog w = .ok (a == p && (b == q && (c == r && d == s))) w := by
  obtain ⟨i, hi⟩ := infoInt
  rw [run_equalIn_array w (k + 1) _ _ Try.underlying195 hi, cellsInt]
  obtain ⟨x0, x1, x2, x3⟩ := part_int a b c d w
  obtain ⟨y0, y1, y2, y3⟩ := part_int p q r s w
  have r4 : List.range 4 = [0, 1, 2, 3] := rfl
  have e0 := fun w => run_equalIn_int w k 3 .i64 .i64 a p Try.underlying3
  have e1 := fun w => run_equalIn_int w k 3 .i64 .i64 b q Try.underlying3
  have e2 := fun w => run_equalIn_int w k 3 .i64 .i64 c r Try.underlying3
  have e3 := fun w => run_equalIn_int w k 3 .i64 .i64 d s Try.underlying3
  cases h0 : (a == p) <;> cases h1 : (b == q) <;> cases h2 : (c == r) <;> cases h3 : (d == s) <;> (rw [h0] at e0; rw [h1] at e1; rw [h2] at e2; rw [h3] at e3; simp [r4, Op.eqItems, x0, x1, x2, x3, y0, y1, y2, y3, e0, e1, e2, e3])
theorem run_neq4 (a b c d p q r s : Int) (v : Bool) (w : World) (h : (a == p && (b == q && (c == r && d == s))) = v) : (binOp .neq 195 (rg a b c d) (rg p q r s)).run Try.prog w = .ok (.bool (!v)) w := by
  subst h
  simp only [binOp]
  simp [Op.equal, Op.maxDepth, eq4 9998 a b c d p q r s w]
end Go.Proofs.Ytofclfgaekjonaa
namespace Go.Proofs.Ytofclfgaekjonaa
open Go.RowKit RM
set_option linter.unusedVariables false
set_option linter.unusedSimpArgs false
theorem tdiv_bd2 {a n : Int} (ha : -2000000000 ≤ a ∧ a ≤ 2000000000) : -2000000000 ≤ a.tdiv n ∧ a.tdiv n ≤ 2000000000 := by
  have h := Int.natAbs_tdiv_le_natAbs a n
  omega

set_option maxRecDepth 100000 in
set_option maxHeartbeats 4000000 in
theorem de_t (a b c d n : Int) (w : World) (ha : -2000000000 ≤ a ∧ a ≤ 2000000000) (hb : -2000000000 ≤ b ∧ b ≤ 2000000000) (hc : -2000000000 ≤ c ∧ c ≤ 2000000000) (hd : -2000000000 ≤ d ∧ d ≤ 2000000000) (hn : n ≠ 0) (hn0 : -9000000000000000000 ≤ n) (hn1 : n ≤ 9000000000000000000) (hr : (a.tmod n == 0 && (b.tmod n == 0 && (c.tmod n == 0 && d.tmod n == 0))) = true) (hv : vr (a.tdiv n) (b.tdiv n) (c.tdiv n) (d.tdiv n) = true) :
    Calls Try.prog 199 #[rg a b c d, .int .i64 n] w fun e w' => e = .returned (rt (a.tdiv n) (b.tdiv n) (c.tdiv n) (d.tdiv n) true) ∧ Below w.heap.size w w' := by
  have he := fun w => run_neq4 (a.tmod n) (b.tmod n) (c.tmod n) (d.tmod n) 0 0 0 0 true w hr
  obtain ⟨ta1, ta2⟩ := tdiv_bd2 (n := n) ha
  obtain ⟨tb1, tb2⟩ := tdiv_bd2 (n := n) hb
  obtain ⟨tc1, tc2⟩ := tdiv_bd2 (n := n) hc
  obtain ⟨td1, td2⟩ := tdiv_bd2 (n := n) hd
  clear hr
  have HV := hid hv
  clear hv
  obtain ⟨a1, a2⟩ := ha
  obtain ⟨b1, b2⟩ := hb
  obtain ⟨c1, c2⟩ := hc
  obtain ⟨d1, d2⟩ := hd
  have h0 : (n == 0) = false := by simp [hn]
  have i0 := fun w => (ix a b c d w).1
  have i1 := fun w => (ix a b c d w).2.1
  have i2 := fun w => (ix a b c d w).2.2.1
  have i3 := fun w => (ix a b c d w).2.2.2
  go_enter Try.func199, Try.ntmps199
  go_wp2_with fail
  refine wp_loop_rounds 5 ?_
  rw [rounds_succ]; go_wp2_with fail
  go_region
  go_wp2_with fail
  rw [rounds_succ]; go_wp2_with fail
  go_region
  go_wp2_with fail
  rw [rounds_succ]; go_wp2_with fail
  go_region
  go_wp2_with fail
  rw [rounds_succ]; go_wp2_with fail
  go_region
  go_wp2_with fail
  rw [rounds_succ]; go_wp2_with (first | (go_at_call 178; ((with_reducible refine (ro_t _ _ _ _ _ HV.out).mono ?_); rintro e w1 ⟨rfl, hb1⟩; obtain ⟨hc1, hf1, _⟩ := bcell hb1; have hz1 := hb1.size; (try simp at hz1); (try have hx10 : w.heap.size < w1.heap.size := (by omega)); (try have hx11 : w.heap.size + 1 < w1.heap.size := (by omega)); (try have hx12 : w.heap.size + 1 + 1 < w1.heap.size := (by omega)); (try have hx13 : w.heap.size + 1 + 1 + 1 < w1.heap.size := (by omega)); have zc0 : w1.cell? ⟨w.heap.size + 1, 0, none⟩ = some (.int .i64 0) := (by rw [hc1 _ _ (by first | omega | (simp; done) | (simp; omega))]; go_simp); have zc1 : w1.cell? ⟨w.heap.size + 1, 1, none⟩ = some (.int .i64 0) := (by rw [hc1 _ _ (by first | omega | (simp; done) | (simp; omega))]; go_simp); have zc2 : w1.cell? ⟨w.heap.size + 1, 2, none⟩ = some (.int .i64 0) := (by rw [hc1 _ _ (by first | omega | (simp; done) | (simp; omega))]; go_simp); have zc3 : w1.cell? ⟨w.heap.size + 1, 3, none⟩ = some (.int .i64 0) := (by rw [hc1 _ _ (by first | omega | (simp; done) | (simp; omega))]; go_simp); have zf0 : w1.frozen? ⟨w.heap.size + 1, 0, none⟩ = false := (by rw [hf1 _ _ (by first | omega | (simp; done) | (simp; omega))]; go_simp); have zf1 : w1.frozen? ⟨w.heap.size + 1, 1, none⟩ = false := (by rw [hf1 _ _ (by first | omega | (simp; done) | (simp; omega))]; go_simp); have zf2 : w1.frozen? ⟨w.heap.size + 1, 2, none⟩ = false := (by rw [hf1 _ _ (by first | omega | (simp; done) | (simp; omega))]; go_simp); have zf3 : w1.frozen? ⟨w.heap.size + 1, 3, none⟩ = false := (by rw [hf1 _ _ (by first | omega | (simp; done) | (simp; omega))]; go_simp))) | go_in)
  refine bodyPost_ret (v := rt (a.tdiv n) (b.tdiv n) (c.tdiv n) (d.tdiv n) true) (by first | (simp [results, Try.results199, go_sem, *]; done) | (simp (disch := (first | omega | (simp; done) | (simp; omega))) [results, Try.results199, go_sem, *]; done)) rfl ⟨rfl, ?_⟩
  repeat' (first | (with_reducible exact Below.refl _ _) | (with_reducible refine Below.alloc ?_ ?_ _) | (with_reducible refine Below.drew ?_) | (with_reducible refine Below.setCell ?_ ?_ _) | (with_reducible refine chain ?_ (by assumption) ?_) | omega | (simp; done) | (simp; omega))

set_option maxRecDepth 100000 in
set_option maxHeartbeats 4000000 in
theorem de_r (a b c d n : Int) (w : World) (ha : -2000000000 ≤ a ∧ a ≤ 2000000000) (hb : -2000000000 ≤ b ∧ b ≤ 2000000000) (hc : -2000000000 ≤ c ∧ c ≤ 2000000000) (hd : -2000000000 ≤ d ∧ d ≤ 2000000000) (hn : n ≠ 0) (hn0 : -9000000000000000000 ≤ n) (hn1 : n ≤ 9000000000000000000) (hr : (a.tmod n == 0 && (b.tmod n == 0 && (c.tmod n == 0 && d.tmod n == 0))) = false) :
    Calls Try.prog 199 #[rg a b c d, .int .i64 n] w fun e w' => e = .returned (rt 0 0 0 0 false) ∧ Below w.heap.size w w' := by
  have he := fun w => run_neq4 (a.tmod n) (b.tmod n) (c.tmod n) (d.tmod n) 0 0 0 0 false w hr
  obtain ⟨ta1, ta2⟩ := tdiv_bd2 (n := n) ha
  obtain ⟨tb1, tb2⟩ := tdiv_bd2 (n := n) hb
  obtain ⟨tc1, tc2⟩ := tdiv_bd2 (n := n) hc
  obtain ⟨td1, td2⟩ := tdiv_bd2 (n := n) hd
  clear hr
  obtain ⟨a1, a2⟩ := ha
  obtain ⟨b1, b2⟩ := hb
  obtain ⟨c1, c2⟩ := hc
  obtain ⟨d1, d2⟩ := hd
  have h0 : (n == 0) = false := by simp [hn]
  have i0 := fun w => (ix a b c d w).1
  have i1 := fun w => (ix a b c d w).2.1
  have i2 := fun w => (ix a b c d w).2.2.1
  have i3 := fun w => (ix a b c d w).2.2.2
  go_enter Try.func199, Try.ntmps199
  go_wp2_with fail
  refine wp_loop_rounds 5 ?_
  rw [rounds_succ]; go_wp2_with fail
  go_region
  go_wp2_with fail
  rw [rounds_succ]; go_wp2_with fail
  go_region
  go_wp2_with fail
  rw [rounds_succ]; go_wp2_with fail
  go_region
  go_wp2_with fail
  rw [rounds_succ]; go_wp2_with fail
  go_region
  go_wp2_with fail
  rw [rounds_succ]; go_wp2_with (first | go_in)
  refine bodyPost_ret (v := rt 0 0 0 0 false) (by first | (simp [results, Try.results199, go_sem, *]; done) | (simp (disch := (first | omega | (simp; done) | (simp; omega))) [results, Try.results199, go_sem, *]; done)) rfl ⟨rfl, ?_⟩
  repeat' (first | (with_reducible exact Below.refl _ _) | (with_reducible refine Below.alloc ?_ ?_ _) | (with_reducible refine Below.drew ?_) | (with_reducible refine Below.setCell ?_ ?_ _) | (with_reducible refine chain ?_ (by assumption) ?_) | omega | (simp; done) | (simp; omega))
end Go.Proofs.Ytofclfgaekjonaa
