/- ParseDyadic: texts read back. -/
import Derived.Test.YtdbnjoeanoiifaaDoorPb
import Derived.Test.YtdbnjoeanoiifaaDoorFdi
import Derived.Test.YtdbnjoeanoiifaaDoorRr
import Derived.Test.YtdbnjoeanoiifaaDoorCt
import Derived.Test.YtdbnjoeanoiifaaDoorDs
import Derived.Test.YtdbnjoeanoiifaaDoorDi
namespace Go.Proofs.YtdbnjoeanoiifaaDoor
open Go.RowKit RM
set_option linter.unusedVariables false
set_option linter.unusedSimpArgs false
attribute [local irreducible] World.setCell

theorem itoa_47 (a : Int) : ∀ b ∈ Lib.itoa a, (b.toNat : Int) ≠ 47 := by
  intro b hb
  unfold Lib.itoa at hb
  split at hb
  · rw [List.mem_cons] at hb
    rcases hb with hb | hb
    · subst hb; decide
    · have := dec_dig _ b hb; omega
  · have := dec_dig _ b hb; omega
theorem ftx_47 (a b c d : Int) : ∀ x ∈ (ftx a b c d).data.toList, (x.toNat : Int) ≠ 47 := by
  intro x hx
  rw [ftx_data] at hx
  simp only [List.mem_append, List.mem_cons] at hx
  rcases hx with h | h | h | h | h | h | h
  · exact itoa_47 a x h
  · subst h; decide
  · exact itoa_47 b x h
  · subst h; decide
  · exact itoa_47 c x h
  · subst h; decide
  · exact itoa_47 d x h
theorem itx_dec (e : Nat) : (itx (e : Int)).data.toList = Lib.decDigits e := by rw [itx_nat]
theorem fdx_data (a b c d : Int) (e : Nat) : (fdx a b c d e).data.toList = (ftx a b c d).data.toList ++ 47 :: Lib.decDigits e := by
  unfold fdx
  rw [← itx_dec]
  simp
theorem dec_47 (e : Nat) : ∀ x ∈ Lib.decDigits e, (x.toNat : Int) ≠ 47 := fun x hx => by have := dec_dig e x hx; omega
theorem map_inj : ∀ (l m : List ByteArray), l.map (·.data.toList) = m.map (·.data.toList) → l = m := by
  intro l
  induction l with
  | nil => intro m h; cases m with | nil => rfl | cons => simp at h
  | cons x l ih => intro m h; cases m with
    | nil => simp at h
    | cons y m => simp only [List.map_cons, List.cons.injEq] at h; rw [ba_ext h.1, ih m h.2]
theorem spl_fdx (a b c d : Int) (e : Nat) : spl (fdx a b c d e) 47 = [ftx a b c d, itx (e : Int)] := by
  have h := spl_lsp (fdx a b c d e) 47
  have st : ∀ (x : UInt8) (r : List UInt8) (p : List UInt8 × List (List UInt8)), (x.toNat : Int) = 47 → lsp 47 (x :: r) p = lsp 47 r ([], p.2 ++ [p.1]) := fun x r p h => by rw [lsp, if_pos h]
  rw [fdx_data, lsp_app, lsp_none (ftx_47 a b c d), st _ _ _ rfl, lsp_none (dec_47 e)] at h
  refine map_inj _ _ ?_
  rw [h]
  simp [itx_dec]
/-- the pieces, joined -/
theorem lsp_join : ∀ (l : List UInt8) (p : List UInt8 × List (List UInt8)), (lsp 47 l p).2.flatMap (· ++ [47]) ++ (lsp 47 l p).1 = p.2.flatMap (· ++ [47]) ++ (p.1 ++ l)
  | [], p => by rw [lsp]; simp
  | x :: l, p => by
    rw [lsp]
    split
    · rename_i h
      have hx : x = 47 := UInt8.toNat_inj.1 (by have : (x.toNat : Int) = 47 := h; show x.toNat = 47; omega)
      rw [lsp_join l]
      subst hx
      simp
    · rw [lsp_join l]
      simp
theorem spl_back {s u v : ByteArray} (h : spl s 47 = [u, v]) : s.data.toList = u.data.toList ++ 47 :: v.data.toList := by
  have h1 := spl_lsp s 47
  have h2 := lsp_join s.data.toList ([], [])
  rw [h] at h1
  simp only [List.map_cons, List.map_nil] at h1
  generalize lsp 47 s.data.toList ([], []) = q at h1 h2
  obtain ⟨q1, q2⟩ := q
  dsimp only at h1 h2
  have h3 : q2 = [u.data.toList] ∧ q1 = v.data.toList := by
    have e1 : q2 ++ [q1] = [u.data.toList] ++ [v.data.toList] := h1.symm
    have e2 := List.append_inj' e1 rfl
    exact ⟨e2.1, by simpa using e2.2⟩
  obtain ⟨rfl, rfl⟩ := h3
  simpa using h2.symm
theorem fdx_back {s v : ByteArray} {a b c d : Int} {n : Nat} (h : spl s 47 = [ftx a b c d, v]) (hv : v.data.toList = Lib.decDigits n) : fdx a b c d n = s := by
  refine ba_ext ?_
  rw [fdx_data, spl_back h, hv]
/-- digits with no zero ahead are the number's own -/
theorem dval_pos {x : UInt8} {t : List UInt8} (h : 49 ≤ x.toNat) : 1 ≤ dval (x :: t) := by
  unfold dval
  rw [List.foldl_cons]
  have := fold_ge t (10 * 0 + (x.toNat - 48))
  omega
theorem dec_dval : ∀ (k : Nat) (l : List UInt8), l.length = k → dgs l → l ≠ [] → (l.length = 1 ∨ ∀ x, l.head? = some x → 49 ≤ x.toNat) → Lib.decDigits (dval l) = l := by
  intro k
  induction k with
  | zero => intro l h0 _ hne _; exact absurd (List.length_eq_zero_iff.1 h0) hne
  | succ k ih =>
    intro l hk hd hne hz
    obtain ⟨m, b, rfl⟩ : ∃ m b, l = m ++ [b] := ⟨l.dropLast, l.getLast hne, (List.dropLast_concat_getLast hne).symm⟩
    have hb := hd b (by simp)
    rw [dval_snoc]
    cases m with
    | nil =>
      have e : 10 * dval [] + (b.toNat - 48) = b.toNat - 48 := by show 10 * 0 + _ = _; omega
      rw [e, Lib.decDigits, dif_pos (by omega)]
      simp only [List.nil_append, List.cons.injEq, and_true]
      refine UInt8.toNat_inj.1 ?_
      rw [UInt8.toNat_ofNat']
      omega
    | cons x t =>
      have hx : 49 ≤ x.toNat := by
        rcases hz with hz | hz
        · simp at hz
        · exact hz x rfl
      have hp := dval_pos (t := t) hx
      have ihm := ih (x :: t) (by simpa using hk) (fun y hy => hd y (List.mem_append_left _ hy)) (by simp) (Or.inr (fun y hy => by simp at hy; subst hy; exact hx))
      have hq : (10 * dval (x :: t) + (b.toNat - 48)) / 10 = dval (x :: t) := by omega
      have hr : (10 * dval (x :: t) + (b.toNat - 48)) % 10 = b.toNat - 48 := by omega
      rw [Lib.decDigits, dif_neg (by omega), hq, hr, ihm]
      congr 1
      simp only [List.cons.injEq, and_true]
      refine UInt8.toNat_inj.1 ?_
      rw [UInt8.toNat_ofNat']
      omega
theorem head0 {v : ByteArray} (h : 0 < v.size) : v.data.toList.head? = some (v[0]'h) := by
  have h2 : 0 < v.data.toList.length := by rw [Array.length_toList]; exact h
  rw [List.head?_eq_getElem?, List.getElem?_eq_getElem h2]
  rfl
/-- what the model's l1Read answers -/
theorem rd_any (v : ByteArray) : ∃ r : Int, (r = -1 ∨ ∃ n : Nat, r = n ∧ v.data.toList = Lib.decDigits n) ∧ ∀ W, Calls Tryd.prog 40 #[.string v] W fun e w' => e = .returned (.int .i64 r) ∧ W = w' := by
  have hl : v.data.toList.length = v.size := Array.length_toList
  by_cases h0 : v.size = 0
  · exact ⟨-1, Or.inl rfl, fun W => rd_0 h0 W⟩
  by_cases h7 : 6 < v.size
  · exact ⟨-1, Or.inl rfl, fun W => rd_7 h7 W⟩
  by_cases hz : ((v[0]'(by omega)).toNat : Int) = 48
  · by_cases h1 : 1 < v.size
    · exact ⟨-1, Or.inl rfl, fun W => rd_z h1 (by omega) hz W⟩
    · by_cases hd : dgs v.data.toList
      · exact ⟨dval v.data.toList, Or.inr ⟨_, rfl, (dec_dval _ _ rfl hd (fun e => by rw [e] at hl; simp at hl; omega) (Or.inl (by omega))).symm⟩, fun W => rd_1 (by omega) (by omega) (by omega) hz (fun _ => rfl) (fun h => absurd hd h) W⟩
      · exact ⟨-1, Or.inl rfl, fun W => rd_1 (by omega) (by omega) (by omega) hz (fun h => absurd h hd) (fun _ => rfl) W⟩
  · by_cases hd : dgs v.data.toList
    · refine ⟨dval v.data.toList, Or.inr ⟨_, rfl, (dec_dval _ _ rfl hd (fun e => by rw [e] at hl; simp at hl; omega) (Or.inr (fun x hx => ?_))).symm⟩, fun W => rd_n (by omega) (by omega) hz (fun _ => rfl) (fun h => absurd hd h) W⟩
      rw [head0 (by omega)] at hx
      have hx2 := Option.some.inj hx
      have := hd x (by rw [← hx2]; exact List.getElem_mem (by omega))
      rw [← hx2] at this ⊢
      omega
    · exact ⟨-1, Or.inl rfl, fun W => rd_n (by omega) (by omega) hz (fun h => absurd h hd) (fun _ => rfl) W⟩
theorem dec_two {e : Nat} (h : e ≤ 60) : (Lib.decDigits e).length ≤ 2 ∧ ((Lib.decDigits e).length = 1 ∨ ∀ x, (Lib.decDigits e).head? = some x → 49 ≤ x.toNat) := by
  rw [Lib.decDigits]
  split
  · exact ⟨by simp, Or.inl rfl⟩
  · rw [Lib.decDigits, dif_pos (by omega)]
    refine ⟨by simp, Or.inr (fun x hx => ?_)⟩
    simp only [List.cons_append, List.nil_append, List.head?_cons, Option.some.injEq] at hx
    subst hx
    rw [UInt8.toNat_ofNat']
    omega
theorem rd_yes {e : Nat} (h : e ≤ 60) (W : World) : Calls Tryd.prog 40 #[.string (itx (e : Int))] W fun ee w' => ee = .returned (.int .i64 (e : Int)) ∧ W = w' := by
  have hl : (itx (e : Int)).data.toList.length = (itx (e : Int)).size := Array.length_toList
  obtain ⟨h2, hz⟩ := dec_two h
  have hd : dgs (itx (e : Int)).data.toList := by rw [itx_dec]; exact dec_dig e
  have hv : dval (itx (e : Int)).data.toList = e := by rw [itx_dec, dval_dec]
  have hn := dec_ne e
  have h1 : 1 ≤ (itx (e : Int)).size := by
    rw [← hl, itx_dec]
    rcases hd2 : Lib.decDigits e with _ | ⟨x, t⟩
    · exact absurd hd2 hn
    · simp
  rw [itx_dec] at hl
  by_cases h48 : (((itx (e : Int))[0]'(by omega)).toNat : Int) = 48
  · refine rd_1 h1 (by omega) ?_ h48 (fun _ => by rw [hv]) (fun k => absurd hd k) W
    rcases hz with hz | hz
    · omega
    · have := hz _ (by rw [← itx_dec]; exact head0 (by omega))
      omega
  · exact rd_n h1 (by omega) h48 (fun _ => by rw [hv]) (fun k => absurd hd k) W
end Go.Proofs.YtdbnjoeanoiifaaDoor
