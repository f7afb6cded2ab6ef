/- FormAt: the program. -/
import Derived.Test.YtofclfgaekjonaaFt9
import Derived.Test.YtofclfgaekjonaaLs1
namespace Go.Proofs.Ytofclfgaekjonaa
open Go.RowKit RM
set_option linter.unusedVariables false
set_option linter.unusedSimpArgs false
attribute [local irreducible] World.setCell

/-- the cells of a list of bytes -/
def bC (l : List Int) : Array Value := (l.map (Value.int .u8)).toArray
theorem bC_get {l : List Int} {i : Nat} {v : Int} (h : l[i]? = some v) : (bC l)[i]? = some (.int .u8 v) := by
  unfold bC; rw [List.getElem?_toArray, List.getElem?_map, h]; rfl
theorem bC_set (l : List Int) (i : Nat) (v : Int) : (bC l).setIfInBounds i (.int .u8 v) = bC (l.set i v) := by
  unfold bC; rw [List.setIfInBounds_toArray, List.map_set]
theorem infoU : (Try.prog.info? 5).map (fun i => (i.zero, i.size, i.bytes)) = some (some (.int .u8 0), 1, 1) := by kernel_rfl
theorem mkU (n : Nat) (hn : n ≤ 1048576) (w : World) : (Instr.makeSlice 136 (.int .i64 (n : Int)) (.int .i64 (n : Int))).run Try.prog w = .ok (.slice (some ⟨w.heap.size, 0, none⟩) n n) (w.alloc (.cells (bC (List.replicate n 0)) 5)) := by
  obtain ⟨i0, hi, hz0, hz1, hz2⟩ := info_parts infoU
  have := run_make (P := Try.prog) w 136 5 i0 _ Try.underlying136 hi hz0 .i64 .i64 n n (by omega) (Int.le_refl _) (by rw [hz2]; omega) (by omega)
  rw [this, hz1]
  have e : madeCells #[Value.int .u8 0] (n * 1) = bC (List.replicate n 0) := by
    apply Array.ext'
    rw [toList_madeCells_one]
    simp [bC]
  simp only [Int.toNat_natCast, Value.cells, e]
/-- what is in the block when i letters are still wanted -/
def lstF (i t q : Nat) : List Int := List.replicate i 0 ++ (if i = 0 then faL t q else sfx t q)
theorem lstF_len (i t q : Nat) : (lstF i t q).length = i + t := by
  unfold lstF; split <;> simp [faL_len, sfx_len]
theorem lstF_get {i t q : Nat} : (lstF (i + 1) t q)[i]? = some 0 := by
  unfold lstF; rw [List.getElem?_append_left (by simp)]; simp
theorem lstF_s {i t q : Nat} : (lstF (i + 2) t q).set (i + 1) (hsN (q / 2 ^ t)) = lstF (i + 1) (t + 1) q := by
  unfold lstF
  rw [if_neg (by omega), if_neg (by omega), List.replicate_succ' (n := i + 1), List.append_assoc, List.set_append_right _ _ (by simp)]
  simp [sfx]
theorem lstF_0 {t q : Nat} : (lstF 1 t q).set 0 (thN (q / 2 ^ t)) = lstF 0 (t + 1) q := by
  unfold lstF
  rw [if_neg (by omega), if_pos rfl]
  simp [faL]
theorem lstF_n (n q : Nat) : lstF n 0 q = List.replicate n 0 := by
  unfold lstF
  split <;> simp [faL, sfx]
theorem lstF_z (t q : Nat) : lstF 0 t q = faL t q := by unfold lstF; simp
attribute [irreducible] lstF bC
set_option maxRecDepth 100000 in
set_option maxHeartbeats 8000000 in
theorem fi_t {n k : Nat} {c : Int} (hn : n ≤ 20) (hk : (k : Int) < cntI n) (hc : c = (k : Int) % 24) (w : World) :
    Calls Try.prog 48 #[.int .i64 (n : Int), .int .i64 (k : Int)] w fun ee w' => ee = .returned (.tuple #[fmv (strOfNums (faL n (k / 24))) c 0, .bool true]) ∧ Below w.heap.size w w' := by
  obtain ⟨q, hq⟩ : ∃ q : Nat, q = k / 24 := ⟨_, rfl⟩
  have HTOP : Hid (∀ m, n = m + 1 → q / 2 ^ m ≤ 2) := by
    intro m hm; rw [hq]; exact top_q (by omega) (by rw [← hm]; exact hk)
  obtain ⟨c1, c2⟩ := cnt_tab n hn
  obtain ⟨C, hC⟩ : ∃ C, C = cntI n := ⟨_, rfl⟩
  have HCF : Hid (∀ w, Calls Try.prog 46 #[.int .i64 (n : Int)] w fun ee w' => ee = .returned (.tuple #[.int .i64 C, .bool true]) ∧ w = w') := hid (by intro w; rw [hC]; exact cf_i_t hn w)
  rw [← hC] at c1 c2 hk
  have k1 : ¬ ((k : Int) < 0) := by omega
  have k2 : ¬ (C ≤ (k : Int)) := by omega
  have k3 : (k : Int) ≤ 37748736 := by omega
  have n1 : (0 : Int) ≤ (n : Int) := by omega
  have n2 : (n : Int) ≤ 20 := by omega
  have e1 : (k : Int) / 24 = (q : Int) := by omega
  have e1t : (k : Int).tdiv 24 = (q : Int) := by rw [Int.tdiv_eq_ediv_of_nonneg (by omega)]; exact e1
  have e2 : (k : Int) % 24 = c := hc.symm
  have hq1 : q ≤ 1600000 := by omega
  have hwk : IntKind.i64.wrap (q : Int) = (q : Int) := IntWalk.i64_in _ (by omega)
  rw [← hq]
  clear hC hc hq
  go_enter Try.func48, Try.ntmps48
  go_upto_region 1 with (fail)
  obtain ⟨W, hW⟩ : ∃ W : World, W = w.alloc (.cells #[.string (ByteArray.mk #[]), .int .i64 0, .int .i64 0] 73) := ⟨_, rfl⟩
  have hBW : Below w.heap.size w W := by rw [hW]; exact (Below.refl _ _).alloc (Nat.le_refl _) _
  have XR : Hid (Bx W w.heap.size 73 #[.string (ByteArray.mk #[]), .int .i64 0, .int .i64 0]) := by rw [hW]; exact Bx.new rfl
  rw [← hW]
  clear hW
  have r0 := XR.out.c 0 rfl
  have r1 := XR.out.c 1 rfl
  have r2 := XR.out.c 2 rfl
  have rf := XR.out.f
  have rl := XR.out.lt
  clear r0 r1 r2 rf rl
  go_wp2_with ((go_at_call 46; ((refine (HCF.out _).mono ?_); rintro ee w1 ⟨rfl, rfl⟩)))
  have hmk := mkU n (by omega) W.drew
  refine wp_region_x (fun w' => Bx w' w.heap.size 73 #[.string (ByteArray.mk #[]), .int .i64 0, .int .i64 0] ∧ Below w.heap.size w w') 1000 (by kernel_rfl) ⟨XR.out, hBW.drew⟩ (fun hS0 => ?_)
  refine wpAnyX_take (i := 0) (oi := _) (v := ?_) rfl (by kernel_rfl) (by kernel_rfl) (by kernel_rfl) (by kernel_rfl) (fun _ _ _ h => h) (Or.inl ⟨by rfl, ?_⟩) hS0 ?_
  rotate_left 1
  · (intro W8 hSw;  go_simp; (try with_reducible rfl))
  change wpAnyX _ _ _ _ _ _ _ _ (Act.put _ (some 29) _) _
  try simp only [Act.put, List.setIfInBounds_toArray, List.set_cons_zero, List.set_cons_succ]
  refine wpAnyX_take (i := 1) (oi := _) (v := ?_) rfl (by kernel_rfl) (by kernel_rfl) (by kernel_rfl) (by kernel_rfl) (fun _ _ _ h => h) (Or.inl ⟨by rfl, ?_⟩) hS0 ?_
  rotate_left 1
  · (intro W8 hSw;  go_simp; (try with_reducible rfl))
  change wpAnyX _ _ _ _ _ _ _ _ (Act.put _ (some 30) _) _
  try simp only [Act.put, List.setIfInBounds_toArray, List.set_cons_zero, List.set_cons_succ]
  refine wpAnyX_take (i := 2) (oi := _) (v := ?_) rfl (by kernel_rfl) (by kernel_rfl) (by kernel_rfl) (by kernel_rfl) (fun _ _ _ h => h) (Or.inl ⟨by rfl, ?_⟩) hS0 ?_
  rotate_left 1
  · (intro W8 hSw;  go_simp; (try with_reducible rfl))
  change wpAnyX _ _ _ _ _ _ _ _ (Act.put _ (some 31) _) _
  try simp only [Act.put, List.setIfInBounds_toArray, List.set_cons_zero, List.set_cons_succ]
  refine wpAnyX_take (i := 4) (oi := _) (v := ?_) rfl (by kernel_rfl) (by kernel_rfl) (by kernel_rfl) (by kernel_rfl) (fun _ _ _ h => h) (Or.inl ⟨by rfl, ?_⟩) hS0 ?_
  rotate_left 1
  · (intro W8 hSw;  go_simp; (try with_reducible rfl))
  change wpAnyX _ _ _ _ _ _ _ _ (Act.put _ (some 8) _) _
  try simp only [Act.put, List.setIfInBounds_toArray, List.set_cons_zero, List.set_cons_succ]
  refine wpAnyX_one (i := 3) (o := _) rfl (by kernel_rfl) (fun K hK => ?_)
  go_simp
  refine hK.out _ _ (fun _ => ⟨hS0.1.alloc _, hS0.2.alloc hS0.2.size _⟩) (fun hS1 => ?_)
  clear hK K
  have hS1 := hS1 (by decide)
  try simp only [Act.put, List.setIfInBounds_toArray, List.set_cons_zero, List.set_cons_succ]
  refine wpAnyX_one (i := 5) (o := _) rfl (by kernel_rfl) (fun K hK => ?_)
  go_simp
  refine hK.out _ _ (fun _ => hS1) (fun hS2 => ?_)
  clear hK K
  have hS2 := hS2 (by decide)
  try simp only [Act.put, List.setIfInBounds_toArray, List.set_cons_zero, List.set_cons_succ]
  refine wpAnyX_done (by kernel_rfl) ?_ _
  obtain ⟨w3, hw3⟩ : ∃ w3 : World, w3 = (W.alloc (.cells (bC (List.replicate n 0)) 5)).drew := ⟨_, rfl⟩
  have XB0 : Hid (Bx w3 W.heap.size 5 (bC (lstF n 0 q))) := by rw [hw3, lstF_n]; exact Bx.new (W := W) rfl
  have HS : Hid (Bx w3 w.heap.size 73 #[.string (ByteArray.mk #[]), .int .i64 0, .int .i64 0] ∧ Below w.heap.size w w3) := hid (by rw [hw3]; exact hS2)
  have hWs : w.heap.size < W.heap.size := XR.out.lt
  rw [← hw3]
  clear hw3 hS0 hS1 hS2 XR hmk
  go_wp2_with (fail)
  go_loopg [8, 10] n (fun g s8 s10 wr => ∃ t i Q : Nat, i + t = n ∧ g = i ∧ s8 = .int .i64 (Q : Int) ∧ s10 = .int .i64 ((i : Int) - 1) ∧ Hid (0 < i → Q = q / 2 ^ t) ∧ Q ≤ 1600000 ∧ Hid (Bx wr W.heap.size 5 (bC (lstF i t q))) ∧ Hid (Bx wr w.heap.size 73 #[.string (ByteArray.mk #[]), .int .i64 0, .int .i64 0]) ∧ Below w.heap.size w wr)
  case atStart => exact ⟨0, n, q, by omega, rfl, rfl, rfl, (fun _ => by simp), hq1, XB0.out, HS.out.1, HS.out.2⟩
  case round =>
    obtain ⟨t, i, Q, hi, rfl, rfl, rfl, HQ, hQ1, XB, XR, hB⟩ := hrel
    clear HS XB0
    cases gk with
    | zero =>
      obtain rfl : t = n := by omega
      have hcv := run_convert_bytes_arg (P := Try.prog) wr 136 5 Try.underlying136 Try.underlying5 W.heap.size 0 t t (faL t q) (faL_len t q) (fun i9 hi9 => by
        have h := XB.out
        rw [lstF_z] at h
        have hl : i9 < (faL t q).length := by rw [faL_len]; exact hi9
        rw [Nat.zero_add]
        exact h.c i9 (bC_get (by rw [List.getD_eq_getElem?_getD, List.getElem?_eq_getElem hl]; rfl))) 9 Try.underlying9
      have r0 := XR.out.c 0 rfl
      have r1 := XR.out.c 1 rfl
      have r2 := XR.out.c 2 rfl
      have rf := XR.out.f
      have rl := XR.out.lt
      have z1 : ¬ (((0 : Nat) : Int) - 1 ≥ 0) := by omega
      obtain ⟨stn, hst⟩ : ∃ s, s = strOfNums (faL t q) := ⟨_, rfl⟩
      rw [← hst] at hcv
      go_wp2_with (fail)
      refine bodyPost_ret (v := .tuple #[fmv stn c 0, .bool true]) (by first | (simp only [results, Try.results48]; go_simp; done) | (simp [results, Try.results48, go_sem, *]; done)) rfl ⟨by rw [hst], ((hB.setCell (by show _ ≤ w.heap.size; omega) _).setCell (by show _ ≤ w.heap.size; omega) _).setCell (by show _ ≤ w.heap.size; omega) _⟩
    | succ m =>
      have e10 : ((m + 1 : Nat) : Int) - 1 = (m : Int) := by omega
      rw [e10]
      have hQe := HQ.out (by omega)
      have kc := XB.out.c m (bC_get lstF_get)
      have kf := XB.out.f
      have kl := XB.out.lt
      have mb : (m : Int) ≤ 20 := by omega
      have mn : (m : Int) < (n : Int) := by omega
      cases m with
      | zero =>
        have hQ3 : Q ≤ 2 := by have h := HTOP.out t (by omega); omega
        have HTH : Hid (thN Q = thN (q / 2 ^ t)) := hid (by rw [hQe])
        clear hQe
        rcases (show Q = 0 ∨ Q = 1 ∨ Q = 2 by omega) with h | h | h
        · subst h
          have HL := hid (HTH.out.symm)
          go_wp2_with ((go_at_call 102; ((refine (la_0 _).mono ?_); rintro ee w1 ⟨rfl, rfl⟩)))
          go_roundg 0
          case measure => omega
          case rel =>
            refine ⟨t + 1, 0, 0, by omega, rfl, rfl, rfl, (fun h => absurd h (by decide)), by omega, ?_, ?_, ?_⟩
            · show Bx _ _ _ _
              rw [← lstF_0, ← bC_set, HL.out]
              exact XB.out.set rfl
            · exact XR.out.far (by omega)
            · exact hB.setCell (by show w.heap.size ≤ W.heap.size; omega) _
        · subst h
          have HL := hid (HTH.out.symm)
          go_wp2_with ((go_at_call 102; ((refine (la_0 _).mono ?_); rintro ee w1 ⟨rfl, rfl⟩)))
          go_roundg 0
          case measure => omega
          case rel =>
            refine ⟨t + 1, 0, 0, by omega, rfl, rfl, rfl, (fun h => absurd h (by decide)), by omega, ?_, ?_, ?_⟩
            · show Bx _ _ _ _
              rw [← lstF_0, ← bC_set, HL.out]
              exact XB.out.set rfl
            · exact XR.out.far (by omega)
            · exact hB.setCell (by show w.heap.size ≤ W.heap.size; omega) _
        · subst h
          have HL := hid (HTH.out.symm)
          go_wp2_with ((go_at_call 102; ((refine (la_0 _).mono ?_); rintro ee w1 ⟨rfl, rfl⟩)))
          go_roundg 0
          case measure => omega
          case rel =>
            refine ⟨t + 1, 0, 0, by omega, rfl, rfl, rfl, (fun h => absurd h (by decide)), by omega, ?_, ?_, ?_⟩
            · show Bx _ _ _ _
              rw [← lstF_0, ← bC_set, HL.out]
              exact XB.out.set rfl
            · exact XR.out.far (by omega)
            · exact hB.setCell (by show w.heap.size ≤ W.heap.size; omega) _
      | succ m2 =>
        have hjn : ¬ (((m2 + 1 : Nat) : Int) = 0) := by omega
        have hjn2 : ¬ ((m2 : Int) + 1 = 0) := by omega
        have e5 : (Q : Int) ≤ 1600000 := by omega
        obtain ⟨Q2, hQ2e⟩ : ∃ Q2, Q2 = Q / 2 := ⟨_, rfl⟩
        have e6 : (Q : Int) / 2 = (Q2 : Int) := by omega
        have e7 : Q2 ≤ 1600000 := by omega
        have HQ2 : Hid (Q2 = q / 2 ^ (t + 1)) := hid (by rw [hQ2e, hQe, div_s])
        have HHS : Hid (hsN Q = hsN (q / 2 ^ t)) := hid (by rw [hQe])
        clear hQe hQ2e
        rcases Nat.mod_two_eq_zero_or_one Q with hm | hm
        · have e3 : (Q : Int) % 2 = 0 := by omega
          have HL : Hid (hsN (q / 2 ^ t) = 72) := hid (by rw [← HHS.out]; exact hsN_0 hm)
          clear hm
          go_wp2_with ((go_at_call 102; ((refine (la_n (by omega) _).mono ?_); rintro ee w1 ⟨rfl, rfl⟩)))
          go_roundg (m2 + 1)
          case measure => omega
          case rel =>
            refine ⟨t + 1, m2 + 1, Q2, by omega, rfl, by first | rfl | rw [e6], by first | rfl | (congr 1; omega) | go_num, (fun _ => HQ2.out), e7, ?_, ?_, ?_⟩
            · show Bx _ _ _ _
              rw [← lstF_s, ← bC_set, HL.out]
              exact XB.out.set rfl
            · exact XR.out.far (by omega)
            · exact hB.setCell (by show w.heap.size ≤ W.heap.size; omega) _
        · have e3 : (Q : Int) % 2 = 1 := by omega
          have HL : Hid (hsN (q / 2 ^ t) = 83) := hid (by rw [← HHS.out]; exact hsN_1 hm)
          clear hm
          go_wp2_with ((go_at_call 102; ((refine (la_n (by omega) _).mono ?_); rintro ee w1 ⟨rfl, rfl⟩)))
          go_roundg (m2 + 1)
          case measure => omega
          case rel =>
            refine ⟨t + 1, m2 + 1, Q2, by omega, rfl, by first | rfl | rw [e6], by first | rfl | (congr 1; omega) | go_num, (fun _ => HQ2.out), e7, ?_, ?_, ?_⟩
            · show Bx _ _ _ _
              rw [← lstF_s, ← bC_set, HL.out]
              exact XB.out.set rfl
            · exact XR.out.far (by omega)
            · exact hB.setCell (by show w.heap.size ≤ W.heap.size; omega) _

end Go.Proofs.Ytofclfgaekjonaa
