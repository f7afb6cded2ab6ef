/- Texts of forms, cut and split at blanks. -/
import Derived.Test.YtofclfgaekjonaaDoorAk
import Derived.Test.YtofclfgaekjonaaDoorPs1
import Derived.Test.YtofclfgaekjonaaDoorRr
import Derived.Test.YtofclfgaekjonaaDoorFn4
namespace Go.Proofs.YtofclfgaekjonaaDoor
open Go.RowKit RM
set_option linter.unusedVariables false
set_option linter.unusedSimpArgs false

theorem spS_size (s : ByteArray) (k : Int) : ∀ i, ∀ x ∈ (spS s k i).2, x.size ≤ s.size
  | 0, x, h => by simp [spS] at h
  | i + 1, x, h => by
    rw [spS] at h
    split at h
    · rw [List.mem_append, List.mem_singleton] at h
      rcases h with h | h
      · exact spS_size s k i x h
      · rw [h, ByteArray.size_extract]; omega
    · exact spS_size s k i x h
theorem spl_size {s : ByteArray} {k : Int} {x : ByteArray} (h : x ∈ spl s k) : x.size ≤ s.size := by
  unfold spl at h
  rw [List.mem_append, List.mem_singleton] at h
  rcases h with h | h
  · exact spS_size s k _ x h
  · rw [h, ByteArray.size_extract]; omega
def lsp (k : Int) : List UInt8 → List UInt8 × List (List UInt8) → List UInt8 × List (List UInt8)
  | [], p => p
  | b :: r, p => if (b.toNat : Int) = k then lsp k r ([], p.2 ++ [p.1]) else lsp k r (p.1 ++ [b], p.2)
theorem lsp_app (k : Int) (l m : List UInt8) : ∀ p, lsp k (l ++ m) p = lsp k m (lsp k l p) := by
  induction l with
  | nil => intro p; rfl
  | cons b r ih =>
    intro p
    show lsp k (b :: (r ++ m)) p = _
    rw [lsp, lsp]
    split <;> exact ih _
theorem lsp_none {k : Int} {l : List UInt8} (h : ∀ b ∈ l, (b.toNat : Int) ≠ k) : ∀ p, lsp k l p = (p.1 ++ l, p.2) := by
  induction l with
  | nil => intro p; rw [lsp, List.append_nil]
  | cons b r ih =>
    intro p
    rw [lsp, if_neg (h b (by simp)), ih (fun x hx => h x (by simp [hx]))]
    simp
theorem spS_lsp (s : ByteArray) (k : Int) : ∀ i, i ≤ s.size → (spS s k i).1 ≤ i ∧ lsp k (s.data.toList.take i) ([], []) = ((s.data.toList.drop (spS s k i).1).take (i - (spS s k i).1), (spS s k i).2.map (·.data.toList))
  | 0, _ => by simp [spS, lsp]
  | i + 1, hi => by
    obtain ⟨h1, h2⟩ := spS_lsp s k i (by omega)
    have hl : i < s.data.toList.length := by rw [Array.length_toList]; exact hi
    have ht : s.data.toList.take (i + 1) = s.data.toList.take i ++ [s.data.toList[i]] := by rw [List.take_add_one, List.getElem?_eq_getElem hl]; rfl
    rw [ht, lsp_app, h2, lsp, spS]
    rw [List.getElem?_eq_getElem hl, Option.map_some]
    by_cases e : ((s.data.toList[i]).toNat : Int) = k
    · rw [if_pos e, if_pos (by rw [e])]
      refine ⟨Nat.le_refl _, ?_⟩
      rw [lsp, Nat.sub_self, List.take_zero, List.map_append]
      congr 1
      congr 1
      simp [ByteArray.extract, ByteArray.copySlice, List.take_drop]
    · rw [if_neg e, if_neg (fun c => e (Option.some.inj c))]
      refine ⟨by omega, ?_⟩
      rw [lsp]
      congr 1
      have : i + 1 - (spS s k i).1 = (i - (spS s k i).1) + 1 := by omega
      rw [this, List.take_add_one, List.getElem?_drop]
      have e2 : (spS s k i).1 + (i - (spS s k i).1) = i := by omega
      rw [e2, List.getElem?_eq_getElem hl]
      rfl
theorem spl_lsp (s : ByteArray) (k : Int) : (spl s k).map (·.data.toList) = (lsp k s.data.toList ([], [])).2 ++ [(lsp k s.data.toList ([], [])).1] := by
  obtain ⟨h1, h2⟩ := spS_lsp s k s.size (Nat.le_refl _)
  have hl : s.data.toList.length = s.size := Array.length_toList
  rw [List.take_of_length_le (by omega)] at h2
  rw [h2]
  unfold spl
  rw [List.map_append]
  congr 1
  show [(s.extract (spS s k s.size).1 s.size).data.toList] = [_]
  rw [Lib.extract_to_end, List.take_of_length_le (by rw [List.length_drop]; omega)]
theorem dec_dig : ∀ (n : Nat), ∀ b ∈ Lib.decDigits n, 48 ≤ b.toNat ∧ b.toNat ≤ 57 := by
  intro n
  induction n using Nat.strongRecOn with
  | ind n ih =>
    intro b hb
    rw [Lib.decDigits] at hb
    split at hb
    · rw [List.mem_singleton] at hb
      subst hb
      rw [UInt8.toNat_ofNat']
      omega
    · rw [List.mem_append, List.mem_singleton] at hb
      rcases hb with hb | hb
      · exact ih (n / 10) (by omega) b hb
      · subst hb
        rw [UInt8.toNat_ofNat']
        omega
theorem ba_ext {x y : ByteArray} (h : x.data.toList = y.data.toList) : x = y := by
  cases x; cases y
  congr 1
  exact Array.toList_inj.1 h
theorem head0 {v : ByteArray} (h : 0 < v.size) : v.data.toList.head? = some (v[0]'h) := by
  have h2 : 0 < v.data.toList.length := by rw [Array.length_toList]; exact h
  rw [List.head?_eq_getElem?, List.getElem?_eq_getElem h2]
  rfl
theorem map_inj : ∀ (l m : List ByteArray), l.map (·.data.toList) = m.map (·.data.toList) → l = m := by
  intro l
  induction l with
  | nil => intro m h; cases m with | nil => rfl | cons => simp at h
  | cons x l ih => intro m h; cases m with
    | nil => simp at h
    | cons y m => simp only [List.map_cons, List.cons.injEq] at h; rw [ba_ext h.1, ih m h.2]
theorem rd_any2 (v : ByteArray) : ∃ r : Int, ∀ W, Calls Tryd.prog 33 #[.string v] W fun e w' => e = .returned (.int .i64 r) ∧ W = w' := by
  by_cases h0 : v.size = 0
  · exact ⟨-1, fun W => rd_0 h0 W⟩
  by_cases h7 : 6 < v.size
  · exact ⟨-1, fun W => rd_7 h7 W⟩
  by_cases hz : ((v[0]'(by omega)).toNat : Int) = 48
  · by_cases h1 : 1 < v.size
    · exact ⟨-1, fun W => rd_z h1 (by omega) hz W⟩
    · by_cases hd : dgs v.data.toList
      · exact ⟨dval v.data.toList, fun W => rd_1 (by omega) (by omega) (by omega) hz (fun _ => rfl) (fun h => absurd hd h) W⟩
      · exact ⟨-1, fun W => rd_1 (by omega) (by omega) (by omega) hz (fun h => absurd h hd) (fun _ => rfl) W⟩
  · by_cases hd : dgs v.data.toList
    · exact ⟨dval v.data.toList, fun W => rd_n (by omega) (by omega) hz (fun _ => rfl) (fun h => absurd hd h) W⟩
    · exact ⟨-1, fun W => rd_n (by omega) (by omega) hz (fun h => absurd h hd) (fun _ => rfl) W⟩
theorem dg2_cases {P : Nat → Prop} (h : ∀ q : Fin 24, P q.val) {q : Nat} (hq : q ≤ 23) : P q := h ⟨q, by omega⟩
theorem rd_yes2 {q : Nat} (h : q ≤ 23) (W : World) : Calls Tryd.prog 33 #[.string (dg2 q)] W fun e w' => e = .returned (.int .i64 (q : Int)) ∧ W = w' := by
  by_cases h9 : q < 10
  · have hs : (dg2 q).size = 1 := by unfold dg2; rw [if_pos h9]; rfl
    by_cases h0 : q = 0
    · subst h0
      exact rd_1 (by decide) (by decide) (by decide) (by decide) (fun _ => by decide) (fun hn => absurd (by unfold dgs; decide) hn) W
    · refine rd_n (by omega) (by omega) ?_ (fun _ => ?_) (fun hn => absurd ?_ hn) W
      · have hh := head0 (v := dg2 q) (by omega)
        have h2 := dg2_cases (P := fun q => ¬ q = 0 → ((dg2 q).data.toList.head?.map fun b => b.toNat == 48) = some false) (by decide) h h0
        rw [hh] at h2
        intro h3
        have h4 := Option.some.inj h2
        rw [beq_eq_false_iff_ne] at h4
        omega
      · exact dg2_cases (P := fun q => (q : Int) = (dval (dg2 q).data.toList : Int)) (by decide) h
      · exact dg2_cases (P := fun q => ∀ b ∈ (dg2 q).data.toList, 48 ≤ b.toNat ∧ b.toNat ≤ 57) (by decide) h
  · have hs : (dg2 q).size = 2 := by unfold dg2; rw [if_neg h9]; rfl
    refine rd_n (by omega) (by omega) ?_ (fun _ => ?_) (fun hn => absurd ?_ hn) W
    · have hh := head0 (v := dg2 q) (by omega)
      have h2 := dg2_cases (P := fun q => ¬ q = 0 → ((dg2 q).data.toList.head?.map fun b => b.toNat == 48) = some false) (by decide) h (by omega)
      rw [hh] at h2
      intro h3
      have h4 := Option.some.inj h2
      rw [beq_eq_false_iff_ne] at h4
      omega
    · exact dg2_cases (P := fun q => (q : Int) = (dval (dg2 q).data.toList : Int)) (by decide) h
    · exact dg2_cases (P := fun q => ∀ b ∈ (dg2 q).data.toList, 48 ≤ b.toNat ∧ b.toNat ≤ 57) (by decide) h
theorem at_yes2 {q : Nat} (h : q ≤ 23) : Lib.atoiAll (dg2 q).data.toList = .ok (q : Int) :=
  dg2_cases (P := fun q => Lib.atoiAll (dg2 q).data.toList = .ok (q : Int)) (by decide) h
theorem dg2_32 {q : Nat} (h : q ≤ 23) : ∀ b ∈ (dg2 q).data.toList, (b.toNat : Int) ≠ 32 :=
  dg2_cases (P := fun q => ∀ b ∈ (dg2 q).data.toList, (b.toNat : Int) ≠ 32) (by decide) h
end Go.Proofs.YtofclfgaekjonaaDoor
