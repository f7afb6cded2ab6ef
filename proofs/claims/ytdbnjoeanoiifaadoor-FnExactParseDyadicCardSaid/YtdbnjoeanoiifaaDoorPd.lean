/- ParseDyadic: the program answers as its model. -/
import Derived.Test.YtdbnjoeanoiifaaDoorPn
namespace Go.Proofs.YtdbnjoeanoiifaaDoor
open Go.RowKit RM
set_option linter.unusedVariables false
set_option linter.unusedSimpArgs false
attribute [local irreducible] World.setCell

/-- a number's text: both read it -/
theorem pr_yes {a b c d : Int} (hV : vr a b c d = true) (hs : (ftx a b c d).size ≤ 1048576) {w : World} (hE : Ers w) (hP : p10 w) :
    (∀ W, Calls Tryd.prog 13 #[.string (ftx a b c d)] W fun e w' => e = .returned (rt a b c d true) ∧ Below W.heap.size W w') ∧
    (∀ W, Below w.heap.size w W → Calls Tryd.prog 11 #[.string (ftx a b c d)] W fun e w' => e = .returned (rt a b c d true) ∧ Below W.heap.size W w') := by
  obtain ⟨ha, hb, hc, hd⟩ := vr_iff.1 hV
  have f3 := ftx_size a b c d
  obtain ⟨k, hk⟩ : ∃ k, min 5 ((ftx a b c d).size + 1) - 1 = k + 3 := ⟨min 5 ((ftx a b c d).size + 1) - 4, by omega⟩
  have hN : ((min 5 ((ftx a b c d).size + 1) : Nat) : Int) = min 5 (((ftx a b c d).size : Int) + 1) := by omega
  have hL : Lib.splitB spc 0 (min 5 ((ftx a b c d).size + 1) - 1) (ftx a b c d) = [itx a, itx b, itx c, itx d] := by rw [hk]; exact splitB_ftx a b c d k
  have z : ∀ x, x ∈ [itx a, itx b, itx c, itx d] → x.size ≤ 1048576 := fun x h => by
    rw [← hL] at h
    have := splitB_size _ _ _ _ h
    omega
  have y0 := z (itx a) (by simp)
  have y1 := z (itx b) (by simp)
  have y2 := z (itx c) (by simp)
  have y3 := z (itx d) (by simp)
  have at_ : ∀ {n : Int}, -1000000000 ≤ n ∧ n ≤ 1000000000 → Lib.atoiAll (itx n).data.toList = .ok n := fun h => by rw [itx_data]; exact atoi_itoa h
  exact ⟨fun W => ps_t hs (spl_ftx a b c d) y0 y1 y2 y3 (sgV_itx ha) (sgV_itx hb) (sgV_itx hc) (sgV_itx hd) hV rfl,
    fun W hW => pi_t hs hN hL y0 y1 y2 y3 (at_ ha) (at_ hb) (at_ hc) (at_ hd) (hE.below hW) (hP.mono hW) hV rfl⟩
theorem idx_in (l : List UInt8) : Lib.indexByte l 47 = -1 ∨ ∃ i : Nat, Lib.indexByte l 47 = (i : Int) ∧ i < l.length := by
  induction l with
  | nil => exact Or.inl rfl
  | cons b l ih =>
    unfold Lib.indexByte
    split
    · exact Or.inr ⟨0, rfl, by simp⟩
    · rcases ih with h | ⟨i, h, hi⟩
      · rw [h]; exact Or.inl rfl
      · rw [h, if_neg (by rw [beq_iff_eq]; omega)]
        exact Or.inr ⟨i + 1, by omega, by rw [List.length_cons]; omega⟩
theorem idx47 {l : List UInt8} (h : ∀ b ∈ l, (b.toNat : Int) ≠ 47) (r : List UInt8) : Lib.indexByte (l ++ 47 :: r) 47 = (l.length : Int) := by
  induction l with
  | nil => rfl
  | cons b l ih =>
    have hb : ¬ (b == 47) = true := fun e => h b (by simp) (by rw [beq_iff_eq.1 e]; rfl)
    have ih2 := ih (fun x hx => h x (by simp [hx]))
    show Lib.indexByte (b :: (l ++ 47 :: r)) 47 = _
    unfold Lib.indexByte
    rw [if_neg hb, ih2, if_neg (by rw [beq_iff_eq]; omega), List.length_cons]
    omega
theorem cut_any {s : ByteArray} (hs : s.size ≤ 1048576) : ∃ (u v : ByteArray) (k : Bool), u.size ≤ s.size ∧ v.size ≤ s.size ∧ ∀ W, Calls Tryd.prog 42 #[.string s, .string ⟨#[47]⟩] W fun e w' => e = .returned (.tuple #[.string u, .string v, .bool k]) ∧ Below W.heap.size W w' := by
  rcases idx_in s.data.toList with h | ⟨i, h, hi⟩
  · exact ⟨s, ⟨#[]⟩, false, Nat.le_refl _, Nat.zero_le _, fun W => cut_of (fun w => cut_miss0 h w) W⟩
  · have hi2 : i < s.size := by rw [Array.length_toList] at hi; exact hi
    exact ⟨s.extract 0 i, s.extract (i + 1) s.size, true, by rw [ByteArray.size_extract]; omega, by rw [ByteArray.size_extract]; omega, fun W => cut_of (fun w => cut_hit0 h hi2 hs w) W⟩
theorem cut_yes {a b c d : Int} {e : Nat} (hs : (fdx a b c d e).size ≤ 1048576) (W : World) : Calls Tryd.prog 42 #[.string (fdx a b c d e), .string ⟨#[47]⟩] W fun ee w' => ee = .returned (.tuple #[.string (ftx a b c d), .string (itx (e : Int)), .bool true]) ∧ Below W.heap.size W w' := by
  have hD := fdx_data a b c d e
  have h := idx47 (ftx_47 a b c d) (Lib.decDigits e)
  rw [← hD] at h
  have hl : (fdx a b c d e).size = (fdx a b c d e).data.toList.length := Array.length_toList.symm
  have hi : (ftx a b c d).data.toList.length < (fdx a b c d e).size := by
    rw [hl, hD]; simp
  have k := fun w => cut_of (fun w => cut_hit0 h hi hs w) w
  have e1 : (fdx a b c d e).extract 0 (ftx a b c d).data.toList.length = ftx a b c d := ba_ext (by rw [Lib.extract_data, hD]; simp)
  have e2 : (fdx a b c d e).extract ((ftx a b c d).data.toList.length + 1) (fdx a b c d e).size = itx (e : Int) := ba_ext (by
    rw [Lib.extract_to_end, hD, itx_dec, List.drop_append]
    simp)
  rw [e1, e2] at k
  exact k W
theorem pd_yes {a b c d : Int} {e : Nat} (hV : vd a b c d e = true) (hs : (fdx a b c d e).size ≤ 1048576) {w : World} (hE : Ers w) (hP : p10 w) :
    (∀ W, Calls Tryd.prog 15 #[.string (fdx a b c d e)] W fun ee w' => ee = .returned (dt a b c d e true) ∧ Below W.heap.size W w') ∧
    (∀ W, Below w.heap.size w W → Calls Tryd.prog 16 #[.string (fdx a b c d e)] W fun ee w' => ee = .returned (dt a b c d e true) ∧ Below W.heap.size W w') := by
  obtain ⟨hx, he, _⟩ := vd_iff.1 hV
  have hsz : (fdx a b c d e).size = (ftx a b c d).size + 1 + (itx (e : Int)).size := by
    have h1 : (fdx a b c d e).size = (fdx a b c d e).data.toList.length := Array.length_toList.symm
    have h2 : (ftx a b c d).size = (ftx a b c d).data.toList.length := Array.length_toList.symm
    have h3 : (itx (e : Int)).size = (itx (e : Int)).data.toList.length := Array.length_toList.symm
    rw [h1, h2, h3, fdx_data, itx_dec]; simp; omega
  have hat : Lib.atoiAll (itx (e : Int)).data.toList = .ok (e : Int) := by rw [itx_data]; exact atoi_itoa (by omega)
  obtain ⟨hpS, hpI⟩ := pr_yes hx (by omega) hE hP
  exact ⟨fun W => ds_t hs (spl_fdx a b c d e) hpS (rd_yes he) (fun W => g2_t W hV),
    fun W hW => di_4 (T := fdx a b c d e) (cut_yes hs) (fun W2 h2 => hpI W2 (hW.trans (h2.mono hW.size))) (fun W2 h2 => at_ok (by omega) hat W2) (fun W2 h2 => fd_i_t a b c d e W2 ((hP.mono hW).mono h2) hV)⟩
theorem ds_no {s : ByteArray} (hs : s.size ≤ 1048576) (hx : ∀ a b c d e, vd a b c d e = true → fdx a b c d e ≠ s) {w : World} (hE : Ers w) (hP : p10 w) (W : World) :
    Calls Tryd.prog 15 #[.string s] W fun ee w' => ee = .returned (dt 0 0 0 0 0 false) ∧ Below W.heap.size W w' := by
  by_cases hl : (spl s 47).length = 2
  · obtain ⟨u, v, hL⟩ : ∃ u v, spl s 47 = [u, v] := by
      match h : spl s 47, hl with
      | [u, v], _ => exact ⟨u, v, rfl⟩
    have hu : u.size ≤ s.size := spl_size (k := 47) (by rw [hL]; simp)
    obtain ⟨r, hr, hR⟩ := rd_any v
    by_cases hn : ∃ a b c d, vr a b c d = true ∧ ftx a b c d = u
    · obtain ⟨a, b, c, d, hV, rfl⟩ := hn
      have hp := (pr_yes hV (by omega) hE hP).1
      rcases vi_cases (a := a) (b := b) (c := c) (d := d) (e := r) with hi | ⟨n, rfl, hv⟩
      · exact ds_n hs hL hp hR (fun W => g2_no W hi)
      · rcases hr with hr | ⟨m, hm, hvm⟩
        · omega
        · obtain rfl : n = m := by omega
          exact absurd (fdx_back hL hvm) (hx _ _ _ _ _ hv)
    · have hn2 : ∀ a b c d, vr a b c d = true → ftx a b c d ≠ u := fun a b c d h e => hn ⟨a, b, c, d, h, e⟩
      exact ds_f hs hL (fun W => ps_no (by omega) hn2 W) hR
  · exact ds_len hs rfl hl
theorem di_no {s : ByteArray} (hs : s.size ≤ 1048576) (hx : ∀ a b c d e, vd a b c d e = true → fdx a b c d e ≠ s) {W : World} (hE : Ers W) (hP : p10 W) :
    Calls Tryd.prog 16 #[.string s] W fun ee w' => ee = .returned (dt 0 0 0 0 0 false) ∧ Below W.heap.size W w' := by
  obtain ⟨u, v, k, hu, hv, hC⟩ := cut_any hs
  by_cases hn : ∃ a b c d, vr a b c d = true ∧ ftx a b c d = u
  · obtain ⟨a, b, c, d, hV, rfl⟩ := hn
    have hp := (pr_yes hV (by omega) hE hP).2
    by_cases ha : ∀ r, Lib.atoiAll v.data.toList ≠ .ok r
    · exact di_1 (r := 0) hC hp (fun W2 h2 => at_er (by omega) ha (hE.below h2))
    · obtain ⟨r, ha⟩ := Classical.not_forall.1 ha
      replace ha := Classical.not_not.1 ha
      rcases vi_cases (a := a) (b := b) (c := c) (d := d) (e := r) with hi | ⟨n, rfl, hvd⟩
      · exact di_2 hC hp (fun W2 h2 => at_ok (by omega) ha W2) (fun W2 h2 => fd_i_f a b c d r W2 hi)
      · exact di_3 hC hp (fun W2 h2 => at_ok (by omega) ha W2) (fun W2 h2 => fd_i_t a b c d n W2 (hP.mono h2) hvd) (hx _ _ _ _ _ hvd)
  · have hn2 : ∀ a b c d, vr a b c d = true → ftx a b c d ≠ u := fun a b c d h e => hn ⟨a, b, c, d, h, e⟩
    exact di_0 (r := 0) hC (fun W2 h2 => pi_no (by omega) hn2 (hE.below h2) (hP.mono h2))
/-- both answer the same -/
theorem pd_both {s : ByteArray} (hs : s.size ≤ 1048576) {w : World} (hE : Ers w) (hP : p10 w) : ∃ (a b c d e : Int) (ok : Bool),
    (∀ W, Calls Tryd.prog 15 #[.string s] W fun ee w' => ee = .returned (dt a b c d e ok) ∧ Below W.heap.size W w') ∧
    (∀ W, Below w.heap.size w W → Calls Tryd.prog 16 #[.string s] W fun ee w' => ee = .returned (dt a b c d e ok) ∧ Below W.heap.size W w') := by
  by_cases hx : ∃ a b c d e, vd a b c d e = true ∧ fdx a b c d e = s
  · obtain ⟨a, b, c, d, e, hV, rfl⟩ := hx
    exact ⟨a, b, c, d, e, true, pd_yes hV hs hE hP⟩
  · have hn : ∀ a b c d e, vd a b c d e = true → fdx a b c d e ≠ s := fun a b c d e h k => hx ⟨a, b, c, d, e, h, k⟩
    exact ⟨0, 0, 0, 0, 0, false, fun W => ds_no hs hn hE hP W, fun W hW => di_no hs hn (hE.below hW) (hP.mono hW)⟩
end Go.Proofs.YtdbnjoeanoiifaaDoor
