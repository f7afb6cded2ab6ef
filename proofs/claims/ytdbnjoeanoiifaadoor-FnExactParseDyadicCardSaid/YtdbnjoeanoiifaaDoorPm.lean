/- Texts of four integers: how they are read back. -/
import Derived.Test.YtdbnjoeanoiifaaDoorPs2
import Derived.Test.YtdbnjoeanoiifaaDoorInt
import Derived.Lib.AtoiAll
import Derived.Lib.IndexBytes
namespace Go.Proofs.YtdbnjoeanoiifaaDoor
open Go.RowKit
set_option linter.unusedVariables false
set_option linter.unusedSimpArgs false

/-- pieces are no longer than the text -/
theorem spS_size (s : ByteArray) (k : Int) : ∀ i, ∀ x ∈ (spS s k i).2, x.size ≤ s.size
  | 0, x, h => by simp [spS] at h
  | i + 1, x, h => by
    rw [spS] at h
    split at h
    · rw [List.mem_append, List.mem_singleton] at h
      rcases h with h | h
      · exact spS_size s k i x h
      · rw [h, ByteArray.size_extract]; omega
    · exact spS_size s k i x h
theorem spl_size {s : ByteArray} {k : Int} {x : ByteArray} (h : x ∈ spl s k) : x.size ≤ s.size := by
  unfold spl at h
  rw [List.mem_append, List.mem_singleton] at h
  rcases h with h | h
  · exact spS_size s k _ x h
  · rw [h, ByteArray.size_extract]; omega
/-- the state of the split by lists -/
def lsp (k : Int) : List UInt8 → List UInt8 × List (List UInt8) → List UInt8 × List (List UInt8)
  | [], p => p
  | b :: r, p => if (b.toNat : Int) = k then lsp k r ([], p.2 ++ [p.1]) else lsp k r (p.1 ++ [b], p.2)
theorem lsp_app (k : Int) (l m : List UInt8) : ∀ p, lsp k (l ++ m) p = lsp k m (lsp k l p) := by
  induction l with
  | nil => intro p; rfl
  | cons b r ih =>
    intro p
    show lsp k (b :: (r ++ m)) p = _
    rw [lsp, lsp]
    split <;> exact ih _
theorem lsp_none {k : Int} {l : List UInt8} (h : ∀ b ∈ l, (b.toNat : Int) ≠ k) : ∀ p, lsp k l p = (p.1 ++ l, p.2) := by
  induction l with
  | nil => intro p; rw [lsp, List.append_nil]
  | cons b r ih =>
    intro p
    rw [lsp, if_neg (h b (by simp)), ih (fun x hx => h x (by simp [hx]))]
    simp
/-- the split of a text is the split of its bytes -/
theorem spS_lsp (s : ByteArray) (k : Int) : ∀ i, i ≤ s.size → (spS s k i).1 ≤ i ∧ lsp k (s.data.toList.take i) ([], []) = ((s.data.toList.drop (spS s k i).1).take (i - (spS s k i).1), (spS s k i).2.map (·.data.toList))
  | 0, _ => by simp [spS, lsp]
  | i + 1, hi => by
    obtain ⟨h1, h2⟩ := spS_lsp s k i (by omega)
    have hl : i < s.data.toList.length := by rw [Array.length_toList]; exact hi
    have ht : s.data.toList.take (i + 1) = s.data.toList.take i ++ [s.data.toList[i]] := by rw [List.take_add_one, List.getElem?_eq_getElem hl]; rfl
    rw [ht, lsp_app, h2, lsp, spS]
    rw [List.getElem?_eq_getElem hl, Option.map_some]
    by_cases e : ((s.data.toList[i]).toNat : Int) = k
    · rw [if_pos e, if_pos (by rw [e])]
      refine ⟨Nat.le_refl _, ?_⟩
      rw [lsp, Nat.sub_self, List.take_zero, List.map_append]
      congr 1
      congr 1
      simp [ByteArray.extract, ByteArray.copySlice, List.take_drop]
    · rw [if_neg e, if_neg (fun c => e (Option.some.inj c))]
      refine ⟨by omega, ?_⟩
      rw [lsp]
      congr 1
      have : i + 1 - (spS s k i).1 = (i - (spS s k i).1) + 1 := by omega
      rw [this, List.take_add_one, List.getElem?_drop]
      have e2 : (spS s k i).1 + (i - (spS s k i).1) = i := by omega
      rw [e2, List.getElem?_eq_getElem hl]
      rfl
/-- a text's pieces by its bytes -/
theorem spl_lsp (s : ByteArray) (k : Int) : (spl s k).map (·.data.toList) = (lsp k s.data.toList ([], [])).2 ++ [(lsp k s.data.toList ([], [])).1] := by
  obtain ⟨h1, h2⟩ := spS_lsp s k s.size (Nat.le_refl _)
  have hl : s.data.toList.length = s.size := Array.length_toList
  rw [List.take_of_length_le (by omega)] at h2
  rw [h2]
  unfold spl
  rw [List.map_append]
  congr 1
  show [(s.extract (spS s k s.size).1 s.size).data.toList] = [_]
  rw [Lib.extract_to_end, List.take_of_length_le (by rw [List.length_drop]; omega)]
theorem dec_dig : ∀ (n : Nat), ∀ b ∈ Lib.decDigits n, 48 ≤ b.toNat ∧ b.toNat ≤ 57 := by
  intro n
  induction n using Nat.strongRecOn with
  | ind n ih =>
    intro b hb
    rw [Lib.decDigits] at hb
    split at hb
    · rw [List.mem_singleton] at hb
      subst hb
      rw [UInt8.toNat_ofNat']
      omega
    · rw [List.mem_append, List.mem_singleton] at hb
      rcases hb with hb | hb
      · exact ih (n / 10) (by omega) b hb
      · subst hb
        rw [UInt8.toNat_ofNat']
        omega
/-- what digits stand for -/
def dval (l : List UInt8) : Nat := l.foldl (fun a b => 10 * a + (b.toNat - 48)) 0
theorem dval_snoc (l : List UInt8) (b : UInt8) : dval (l ++ [b]) = 10 * dval l + (b.toNat - 48) := by unfold dval; rw [List.foldl_append]; rfl
theorem dval_dec : ∀ (n : Nat), dval (Lib.decDigits n) = n := by
  intro n
  induction n using Nat.strongRecOn with
  | ind n ih =>
    rw [Lib.decDigits]
    split
    · show 10 * 0 + ((UInt8.ofNat (48 + n)).toNat - 48) = n
      rw [UInt8.toNat_ofNat']
      omega
    · rw [dval_snoc, ih (n / 10) (by omega), UInt8.toNat_ofNat']
      omega
theorem itx_data (a : Int) : (itx a).data.toList = Lib.itoa a := by unfold itx; simp
theorem itoa_32 (a : Int) : ∀ b ∈ Lib.itoa a, (b.toNat : Int) ≠ 32 := by
  intro b hb
  unfold Lib.itoa at hb
  split at hb
  · rw [List.mem_cons] at hb
    rcases hb with hb | hb
    · subst hb; decide
    · have := dec_dig _ b hb; omega
  · have := dec_dig _ b hb; omega
theorem ftx_data (a b c d : Int) : (ftx a b c d).data.toList = Lib.itoa a ++ 32 :: (Lib.itoa b ++ 32 :: (Lib.itoa c ++ 32 :: Lib.itoa d)) := by
  unfold ftx
  simp only [ByteArray.data_append, Array.toList_append, itx_data]
  simp
theorem lsp_ftx (a b c d : Int) : lsp 32 (ftx a b c d).data.toList ([], []) = (Lib.itoa d, [Lib.itoa a, Lib.itoa b, Lib.itoa c]) := by
  have st : ∀ (x : UInt8) (r : List UInt8) (p : List UInt8 × List (List UInt8)), (x.toNat : Int) = 32 → lsp 32 (x :: r) p = lsp 32 r ([], p.2 ++ [p.1]) := fun x r p h => by rw [lsp, if_pos h]
  rw [ftx_data, lsp_app, lsp_none (itoa_32 a), st _ _ _ rfl, lsp_app, lsp_none (itoa_32 b), st _ _ _ rfl, lsp_app, lsp_none (itoa_32 c), st _ _ _ rfl, lsp_none (itoa_32 d)]
  simp
theorem ba_ext {x y : ByteArray} (h : x.data.toList = y.data.toList) : x = y := by
  cases x; cases y
  congr 1
  exact Array.toList_inj.1 h
/-- the pieces of a number's text -/
theorem spl_ftx (a b c d : Int) : spl (ftx a b c d) 32 = [itx a, itx b, itx c, itx d] := by
  have h := spl_lsp (ftx a b c d) 32
  rw [lsp_ftx] at h
  dsimp only at h
  have inj : ∀ (l m : List ByteArray), l.map (·.data.toList) = m.map (·.data.toList) → l = m := by
    intro l
    induction l with
    | nil => intro m h; cases m with | nil => rfl | cons => simp at h
    | cons x l ih => intro m h; cases m with
      | nil => simp at h
      | cons y m => simp only [List.map_cons, List.cons.injEq] at h; rw [ba_ext h.1, ih m h.2]
  refine inj _ _ ?_
  rw [h]
  simp [itx_data]
end Go.Proofs.YtdbnjoeanoiifaaDoor
