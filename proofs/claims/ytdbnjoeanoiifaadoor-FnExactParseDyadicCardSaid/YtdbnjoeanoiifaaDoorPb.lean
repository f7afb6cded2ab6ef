/- ParseRing: the program answers as its model. -/
import Derived.Test.YtdbnjoeanoiifaaDoorPi3
import Derived.Test.YtdbnjoeanoiifaaDoorPi4
import Derived.Test.YtdbnjoeanoiifaaDoorPi5
import Derived.Test.YtdbnjoeanoiifaaDoorPs3
import Derived.Test.YtdbnjoeanoiifaaDoorPm2
namespace Go.Proofs.YtdbnjoeanoiifaaDoor
open Go.RowKit RM
set_option linter.unusedVariables false
set_option linter.unusedSimpArgs false
attribute [local irreducible] World.setCell

theorem splitB_size (sep : ByteArray) : ∀ (k : Nat) (s : ByteArray), ∀ x ∈ Lib.splitB sep 0 k s, x.size ≤ s.size
  | 0, s => fun x hx => by
    rw [Lib.splitB_zero, List.mem_singleton] at hx
    rw [hx]; exact Nat.le_refl _
  | k + 1, s => fun x hx => by
    unfold Lib.splitB at hx
    split at hx
    · rw [List.mem_singleton] at hx
      rw [hx]; exact Nat.le_refl _
    · rcases List.mem_cons.1 hx with rfl | hx
      · rw [ByteArray.size_extract]; omega
      · have := splitB_size sep k _ x hx
        rw [ByteArray.size_extract] at this
        omega
theorem four {α : Type} {L : List α} (h : L.length = 4) : ∃ a b c d, L = [a, b, c, d] := by
  match L, h with
  | [a, b, c, d], _ => exact ⟨a, b, c, d, rfl⟩
theorem ftx_size (a b c d : Int) : 3 ≤ (ftx a b c d).size := by
  have h : (ftx a b c d).size = (ftx a b c d).data.toList.length := by rw [Array.length_toList]; rfl
  rw [h, ftx_data]
  simp only [List.length_append, List.length_cons]
  omega
/-- a text that is no number's: the model answers no -/
theorem ps_no {s : ByteArray} (hs : s.size ≤ 1048576) (hx : ∀ a b c d, vr a b c d = true → ftx a b c d ≠ s) (w : World) :
    Calls Tryd.prog 13 #[.string s] w fun ee w' => ee = .returned (rt 0 0 0 0 false) ∧ Below w.heap.size w w' := by
  by_cases hl : (spl s 32).length = 4
  · obtain ⟨x0, x1, x2, x3, hL⟩ := four hl
    have z : ∀ x, x ∈ [x0, x1, x2, x3] → x.size ≤ 1048576 := fun x h => by
      rw [← hL] at h
      have := spl_size h
      omega
    cases hV : vr (sgV x0) (sgV x1) (sgV x2) (sgV x3)
    · exact ps_f hs hL (z _ (by simp)) (z _ (by simp)) (z _ (by simp)) (z _ (by simp)) rfl rfl rfl rfl hV
    · exact ps_n hs hL (z _ (by simp)) (z _ (by simp)) (z _ (by simp)) (z _ (by simp)) rfl rfl rfl rfl hV (hx _ _ _ _ hV)
  · exact ps_len hs rfl hl
theorem pi_no {s : ByteArray} (hs : s.size ≤ 1048576) (hx : ∀ a b c d, vr a b c d = true → ftx a b c d ≠ s) {w : World} (hE : Ers w) (hP : p10 w) :
    Calls Tryd.prog 11 #[.string s] w fun ee w' => ee = .returned (rt 0 0 0 0 false) ∧ Below w.heap.size w w' := by
  have hN : ((min 5 (s.size + 1) : Nat) : Int) = min 5 ((s.size : Int) + 1) := by omega
  by_cases hl : (Lib.splitB spc 0 (min 5 (s.size + 1) - 1) s).length = 4
  · obtain ⟨x0, x1, x2, x3, hL⟩ := four hl
    have z : ∀ x, x ∈ [x0, x1, x2, x3] → x.size ≤ 1048576 := fun x h => by
      rw [← hL] at h
      have := splitB_size _ _ _ _ h
      omega
    have y0 := z x0 (by simp)
    have y1 := z x1 (by simp)
    have y2 := z x2 (by simp)
    have y3 := z x3 (by simp)
    by_cases e0 : ∀ v, Lib.atoiAll x0.data.toList ≠ .ok v
    · exact pi_e0 hs hN hL y0 y1 y2 y3 e0 hE
    obtain ⟨v0, a0⟩ := Classical.not_forall.1 e0
    replace a0 := Classical.not_not.1 a0
    by_cases e1 : ∀ v, Lib.atoiAll x1.data.toList ≠ .ok v
    · exact pi_e1 hs hN hL y0 y1 y2 y3 a0 e1 hE
    obtain ⟨v1, a1⟩ := Classical.not_forall.1 e1
    replace a1 := Classical.not_not.1 a1
    by_cases e2 : ∀ v, Lib.atoiAll x2.data.toList ≠ .ok v
    · exact pi_e2 hs hN hL y0 y1 y2 y3 a0 a1 e2 hE
    obtain ⟨v2, a2⟩ := Classical.not_forall.1 e2
    replace a2 := Classical.not_not.1 a2
    by_cases e3 : ∀ v, Lib.atoiAll x3.data.toList ≠ .ok v
    · exact pi_e3 hs hN hL y0 y1 y2 y3 a0 a1 a2 e3 hE
    obtain ⟨v3, a3⟩ := Classical.not_forall.1 e3
    replace a3 := Classical.not_not.1 a3
    cases hV : vr v0 v1 v2 v3
    · exact pi_f hs hN hL y0 y1 y2 y3 a0 a1 a2 a3 hE hP hV
    · exact pi_n hs hN hL y0 y1 y2 y3 a0 a1 a2 a3 hE hP hV (hx _ _ _ _ hV)
  · exact pi_len hs hN rfl hl
/-- both answer the same -/
theorem pr_both {s : ByteArray} (hs : s.size ≤ 1048576) {w : World} (hE : Ers w) (hP : p10 w) : ∃ (a b c d : Int) (ok : Bool),
    (∀ W, Calls Tryd.prog 13 #[.string s] W fun e w' => e = .returned (rt a b c d ok) ∧ Below W.heap.size W w') ∧
    (∀ W, Below w.heap.size w W → Calls Tryd.prog 11 #[.string s] W fun e w' => e = .returned (rt a b c d ok) ∧ Below W.heap.size W w') := by
  by_cases hx : ∃ a b c d, vr a b c d = true ∧ ftx a b c d = s
  · obtain ⟨a, b, c, d, hV, rfl⟩ := hx
    obtain ⟨ha, hb, hc, hd⟩ := vr_iff.1 hV
    have f3 := ftx_size a b c d
    obtain ⟨k, hk⟩ : ∃ k, min 5 ((ftx a b c d).size + 1) - 1 = k + 3 := ⟨min 5 ((ftx a b c d).size + 1) - 4, by omega⟩
    have hN : ((min 5 ((ftx a b c d).size + 1) : Nat) : Int) = min 5 (((ftx a b c d).size : Int) + 1) := by omega
    have hL : Lib.splitB spc 0 (min 5 ((ftx a b c d).size + 1) - 1) (ftx a b c d) = [itx a, itx b, itx c, itx d] := by rw [hk]; exact splitB_ftx a b c d k
    have z : ∀ x, x ∈ [itx a, itx b, itx c, itx d] → x.size ≤ 1048576 := fun x h => by
      rw [← hL] at h
      have := splitB_size _ _ _ _ h
      omega
    have y0 := z (itx a) (by simp)
    have y1 := z (itx b) (by simp)
    have y2 := z (itx c) (by simp)
    have y3 := z (itx d) (by simp)
    have at_ : ∀ {n : Int}, -1000000000 ≤ n ∧ n ≤ 1000000000 → Lib.atoiAll (itx n).data.toList = .ok n := fun h => by rw [itx_data]; exact atoi_itoa h
    exact ⟨a, b, c, d, true, fun W => ps_t hs (spl_ftx a b c d) y0 y1 y2 y3 (sgV_itx ha) (sgV_itx hb) (sgV_itx hc) (sgV_itx hd) hV rfl,
      fun W hW => pi_t hs hN hL y0 y1 y2 y3 (at_ ha) (at_ hb) (at_ hc) (at_ hd) (hE.below hW) (hP.mono hW) hV rfl⟩
  · have hn : ∀ a b c d, vr a b c d = true → ftx a b c d ≠ s := fun a b c d h e => hx ⟨a, b, c, d, h, e⟩
    exact ⟨0, 0, 0, 0, false, fun W => ps_no hs hn W, fun W hW => pi_no hs hn (hE.below hW) (hP.mono hW)⟩
end Go.Proofs.YtdbnjoeanoiifaaDoor
