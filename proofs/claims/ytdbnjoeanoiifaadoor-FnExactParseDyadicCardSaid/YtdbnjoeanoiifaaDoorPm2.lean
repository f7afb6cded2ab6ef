/- Texts of four integers: what both read of them. -/
import Derived.Test.YtdbnjoeanoiifaaDoorPm
import Derived.Lib.Split
import Derived.Lib.IndexLaws
namespace Go.Proofs.YtdbnjoeanoiifaaDoor
open Go.RowKit
set_option linter.unusedVariables false
set_option linter.unusedSimpArgs false

theorem fold_ge (l : List UInt8) : ∀ a, a ≤ l.foldl (fun a b => 10 * a + (b.toNat - 48)) a := by
  induction l with
  | nil => intro a; exact Nat.le_refl _
  | cons b r ih => intro a; have := ih (10 * a + (b.toNat - 48)); show a ≤ r.foldl (fun a b => 10 * a + (b.toNat - 48)) (10 * a + (b.toNat - 48)); omega
theorem pu_dig (l : List UInt8) : ∀ acc, (∀ b ∈ l, 48 ≤ b.toNat ∧ b.toNat ≤ 57) → l.foldl (fun a b => 10 * a + (b.toNat - 48)) acc < 1000000000000 → Lib.parseUint10 acc l = .ok (l.foldl (fun a b => 10 * a + (b.toNat - 48)) acc) := by
  induction l with
  | nil => intro acc _ _; rfl
  | cons b r ih =>
    intro acc hd hb
    have h1 := fold_ge r (10 * acc + (b.toNat - 48))
    have hb2 : r.foldl (fun a b => 10 * a + (b.toNat - 48)) (10 * acc + (b.toNat - 48)) < 1000000000000 := hb
    have hbd := hd b (by simp)
    rw [Lib.parseUint10, if_pos hbd, if_neg (by omega), if_neg (by omega)]
    rw [show acc * 10 + (b.toNat - 48) = 10 * acc + (b.toNat - 48) by omega]
    exact ih _ (fun x hx => hd x (by simp [hx])) hb2
theorem dec_ne (n : Nat) : Lib.decDigits n ≠ [] := by
  rw [Lib.decDigits]
  split <;> simp
theorem mag_dec {n : Nat} (h : n ≤ 1000000000) : Lib.parseMag (Lib.decDigits n) = .ok n := by
  have h1 := dval_dec n
  unfold dval at h1
  unfold Lib.parseMag
  rw [if_neg (dec_ne n), pu_dig _ 0 (dec_dig n) (by rw [h1]; omega), h1]
/-- the library reads a number's text back -/
theorem atoi_itoa {a : Int} (h : -1000000000 ≤ a ∧ a ≤ 1000000000) : Lib.atoiAll (Lib.itoa a) = .ok a := by
  unfold Lib.itoa
  split
  · unfold Lib.atoiAll
    dsimp only
    have h45 : UInt8.toNat 45 = 45 := rfl
    rw [if_pos (Or.inr h45), mag_dec (by omega)]
    dsimp only
    rw [if_neg (fun k => k.1 h45), if_neg (fun k => by omega), if_pos h45]
    congr 1
    omega
  · have hm := mag_dec (n := a.toNat) (by omega)
    cases hl : Lib.decDigits a.toNat with
    | nil => exact absurd hl (dec_ne _)
    | cons c r =>
      have hc := dec_dig a.toNat c (by rw [hl]; simp)
      rw [hl] at hm
      unfold Lib.atoiAll
      dsimp only
      rw [if_neg (by omega), hm]
      dsimp only
      rw [if_neg (by omega), if_neg (fun k => by omega), if_neg (by omega)]
      congr 1
      omega
/-- the model's digits -/
theorem sgF_dval (s : ByteArray) (a : Nat) : ∀ i, (∀ b ∈ (s.data.toList.drop a).take i, 48 ≤ b.toNat ∧ b.toNat ≤ 57) → sgF s a i = dval ((s.data.toList.drop a).take i)
  | 0, _ => by rw [List.take_zero]; rfl
  | i + 1, h => by
    have ht : (s.data.toList.drop a).take (i + 1) = (s.data.toList.drop a).take i ++ s.data.toList[a + i]?.toList := by rw [List.take_add_one, List.getElem?_drop]
    have ih := sgF_dval s a i (fun b hb => h b (by rw [ht]; exact List.mem_append_left _ hb))
    rw [sgF, ht, ih]
    cases hb : s.data.toList[a + i]? with
    | none => simp
    | some b =>
      have hbd := h b (by rw [ht, hb]; simp)
      dsimp only
      rw [if_pos hbd, Option.toList_some, dval_snoc]
/-- the model reads a number's text back -/
theorem sgV_itx {a : Int} (h : -1000000000 ≤ a ∧ a ≤ 1000000000) : sgV (itx a) = a := by
  have hsz : (itx a).size = (Lib.itoa a).length := by rw [← itx_data]; exact Array.length_toList.symm
  have hn1 : a.natAbs < 10 ^ (9 + 1) := by omega
  by_cases hneg : a < 0
  · have hit : Lib.itoa a = 45 :: Lib.decDigits a.natAbs := by unfold Lib.itoa; rw [if_pos hneg]
    have hl : (Lib.decDigits a.natAbs).length ≤ 10 := dig_len 9 _ hn1
    have hl1 : 1 ≤ (Lib.decDigits a.natAbs).length := by
      cases hd : Lib.decDigits a.natAbs with
      | nil => exact absurd hd (dec_ne _)
      | cons c r => simp
    have hsz2 : (itx a).size = (Lib.decDigits a.natAbs).length + 1 := by rw [hsz, hit]; rfl
    have hng : ngB (itx a) := ⟨by omega, by rw [itx_data, hit]; rfl⟩
    unfold sgV
    rw [if_pos hng]
    have ht : ((itx a).data.toList.drop 1).take (min (itx a).size 12 - 1) = Lib.decDigits a.natAbs := by
      rw [itx_data, hit]
      show (Lib.decDigits a.natAbs).take _ = _
      exact List.take_of_length_le (by omega)
    rw [sgF_dval _ _ _ (by rw [ht]; exact dec_dig _), ht, dval_dec]
    omega
  · have hit : Lib.itoa a = Lib.decDigits a.toNat := by unfold Lib.itoa; rw [if_neg hneg]
    have hl : (Lib.decDigits a.toNat).length ≤ 10 := dig_len 9 _ (by omega)
    have hng : ¬ ngB (itx a) := fun k => by
      have h2 := k.2
      rw [itx_data, hit] at h2
      cases hd : Lib.decDigits a.toNat with
      | nil => exact absurd hd (dec_ne _)
      | cons c r =>
        have hc := dec_dig a.toNat c (by rw [hd]; simp)
        rw [hd] at h2
        simp at h2
        omega
    unfold sgV
    rw [if_neg hng]
    have ht : ((itx a).data.toList.drop 0).take (min (itx a).size 12) = Lib.decDigits a.toNat := by
      rw [itx_data, hit, List.drop_zero]
      exact List.take_of_length_le (by rw [hsz, hit]; omega)
    rw [sgF_dval _ _ _ (by rw [ht]; exact dec_dig _), ht, dval_dec]
    omega
theorem idx_hit {l : List UInt8} (h : ∀ b ∈ l, (b.toNat : Int) ≠ 32) (r : List UInt8) : Lib.indexByte (l ++ 32 :: r) 32 = (l.length : Int) := by
  induction l with
  | nil => rfl
  | cons b l ih =>
    have hb : ¬ (b == 32) = true := fun e => h b (by simp) (by rw [beq_iff_eq.1 e]; rfl)
    have ih2 := ih (fun x hx => h x (by simp [hx]))
    show Lib.indexByte (b :: (l ++ 32 :: r)) 32 = _
    unfold Lib.indexByte
    rw [if_neg hb, ih2, if_neg (by rw [beq_iff_eq]; omega), List.length_cons]
    omega
theorem idx_miss {l : List UInt8} (h : ∀ b ∈ l, (b.toNat : Int) ≠ 32) : Lib.indexByte l 32 = -1 := by
  induction l with
  | nil => rfl
  | cons b l ih =>
    have hb : ¬ (b == 32) = true := fun e => h b (by simp) (by rw [beq_iff_eq.1 e]; rfl)
    have ih2 := ih (fun x hx => h x (by simp [hx]))
    unfold Lib.indexByte
    rw [if_neg hb, ih2]
    rfl
abbrev spc : ByteArray := ⟨#[32]⟩
theorem idxB (s : ByteArray) : Lib.indexB s spc = Lib.indexByte s.data.toList 32 := Lib.one s spc rfl
theorem sp_hit {s : ByteArray} {l r : List UInt8} {x y : ByteArray} {k : Nat} (hs : s.data.toList = l ++ 32 :: r) (h : ∀ b ∈ l, (b.toNat : Int) ≠ 32) (hx : x.data.toList = l) (hy : y.data.toList = r) : Lib.splitB spc 0 (k + 1) s = x :: Lib.splitB spc 0 k y := by
  have hsz : s.size = s.data.toList.length := Array.length_toList.symm
  rw [Lib.splitB_hit spc 0 k s l.length (by rw [idxB, hs, idx_hit h])]
  have e1 : s.extract 0 (l.length + 0) = x := ba_ext (by rw [Lib.extract_data, hs, hx]; simp)
  have e2 : s.extract (l.length + spc.size) s.size = y := ba_ext (by
    rw [Lib.extract_to_end, hs, hy]
    show (l ++ 32 :: r).drop (l.length + 1) = r
    rw [List.drop_append]
    simp)
  rw [e1, e2]
theorem sp_last {s : ByteArray} {k : Nat} (h : ∀ b ∈ s.data.toList, (b.toNat : Int) ≠ 32) : Lib.splitB spc 0 k s = [s] := Lib.splitB_miss spc 0 k s (by rw [idxB, idx_miss h])
/-- the library splits a number's text -/
theorem splitB_ftx (a b c d : Int) (k : Nat) : Lib.splitB spc 0 (k + 3) (ftx a b c d) = [itx a, itx b, itx c, itx d] := by
  have e := ftx_data a b c d
  let y1 : ByteArray := ⟨(Lib.itoa b ++ 32 :: (Lib.itoa c ++ 32 :: Lib.itoa d)).toArray⟩
  let y2 : ByteArray := ⟨(Lib.itoa c ++ 32 :: Lib.itoa d).toArray⟩
  have h1 : y1.data.toList = Lib.itoa b ++ 32 :: (Lib.itoa c ++ 32 :: Lib.itoa d) := by simp [y1]
  have h2 : y2.data.toList = Lib.itoa c ++ 32 :: Lib.itoa d := by simp [y2]
  rw [sp_hit (x := itx a) (y := y1) e (itoa_32 a) (itx_data a) h1, sp_hit (x := itx b) (y := y2) h1 (itoa_32 b) (itx_data b) h2, sp_hit (x := itx c) (y := itx d) h2 (itoa_32 c) (itx_data c) (itx_data d), sp_last (by rw [itx_data]; exact itoa_32 d)]
end Go.Proofs.YtdbnjoeanoiifaaDoor
