/- FormAt: the model. -/
import Derived.Test.YtofclfgaekjonaaFp
import Derived.Test.YtofclfgaekjonaaVg
import Derived.Test.YtofclfgaekjonaaRgx
import Derived.Test.YtofclfgaekjonaaBx
import Derived.Deep.Cut
namespace Go.Proofs.Ytofclfgaekjonaa
open Go.RowKit RM
set_option linter.unusedVariables false
set_option linter.unusedSimpArgs false
attribute [local irreducible] World.setCell

set_option maxRecDepth 100000 in
set_option maxHeartbeats 8000000 in
theorem at_s {n k : Nat} {c : Int} (hn : n ≤ 20) (hk : (k : Int) < cntI n) (hc : c = (k : Int) % 24) (w : World) :
    Calls Try.prog 103 #[.int .i64 (n : Int), .int .i64 (k : Int)] w fun ee w' => ee = .returned (fmv (strOfNums (faL n (k / 24))) c 0) ∧ Below w.heap.size w w' := by
  obtain ⟨_, ct⟩ := cnt_tab n hn
  have hk1 : (k : Int) ≤ 37748736 := by omega
  have hn1 : (n : Int) ≤ 20 := by omega
  obtain ⟨q, hq⟩ : ∃ q : Nat, q = k / 24 := ⟨_, rfl⟩
  have e1 : (k : Int) / 24 = (q : Int) := by omega
  have e2 : (k : Int) % 24 = c := hc.symm
  have hq1 : q ≤ 1600000 := by omega
  have HTOP : Hid (∀ m, n = m + 1 → q / 2 ^ m ≤ 2) := by
    intro m hm; rw [hq]; exact top_q (by omega) (by rw [← hm]; exact hk)
  rw [← hq]
  clear hq hc hk ct
  go_enter Try.func103, Try.ntmps103
  go_upto_region 2 with (fail)
  (try simp only [e2])
  obtain ⟨W, hW⟩ : ∃ W : World, W = (w.alloc (.cells #[.string (ByteArray.mk #[]), .int .i64 0, .int .i64 0] 73)).alloc (.cells #[.string (ByteArray.mk #[]), .int .i64 c, .int .i64 0] 73) := ⟨_, rfl⟩
  have hBW : Below w.heap.size w W := by rw [hW]; exact ((Below.refl _ _).alloc (Nat.le_refl _) _).alloc (by simp) _
  have XR : Hid (Bx W (w.heap.size) 73 #[.string (ByteArray.mk #[]), .int .i64 0, .int .i64 0]) := by rw [hW]; exact (Bx.new rfl).alloc _
  have XF : Hid (Bx W (w.heap.size + 1) 73 #[.string (strOfNums []), .int .i64 c, .int .i64 0]) := by rw [hW]; exact Bx.new (by simp)
  rw [← hW]
  clear hW
  go_wp2_with (fail)
  go_loopg [6, 7] (n - 1) (fun g s6 s7 wr => ∃ t i Q : Nat, i + t = n ∧ t + g = n - 1 ∧ s6 = .int .i64 (Q : Int) ∧ s7 = .int .i64 (i : Int) ∧ Hid (Q = q / 2 ^ t) ∧ Q ≤ 1600000 ∧ Hid (Bx wr (w.heap.size + 1) 73 #[.string (strOfNums (sfx t q)), .int .i64 c, .int .i64 0]) ∧ Hid (Bx wr (w.heap.size) 73 #[.string (ByteArray.mk #[]), .int .i64 0, .int .i64 0]) ∧ Below w.heap.size w wr)
  case atStart => exact ⟨0, n, q, rfl, by omega, by first | rfl | rw [e1], rfl, (by show q = q / 2 ^ 0; simp), hq1, XF.out, XR.out, hBW⟩
  case round =>
    obtain ⟨t, i, Q, hi, hg, rfl, rfl, HQ, hQ1, XF, XR, hB⟩ := hrel
    cases gk with
    | zero =>
      by_cases hn0 : n = 0
      · subst hn0
        obtain rfl : t = 0 := by omega
        obtain rfl : i = 0 := by omega
        have x0 := XF.out.c 0 rfl
        have x1 := XF.out.c 1 rfl
        have x2 := XF.out.c 2 rfl
        have r0 := XR.out.c 0 rfl
        have r1 := XR.out.c 1 rfl
        have r2 := XR.out.c 2 rfl
        have rf := XR.out.f
        have rl := XR.out.lt
        go_wp2_with (fail)
        refine bodyPost_ret (v := fmv (strOfNums (sfx 0 q)) c 0) (by first | (simp only [results, Try.results103]; go_simp; done) | (simp [results, Try.results103, go_sem, *]; done)) rfl ⟨rfl, ((hB.setCell (by show _ ≤ w.heap.size; omega) _).setCell (by show _ ≤ w.heap.size; omega) _).setCell (by show _ ≤ w.heap.size; omega) _⟩
      · obtain ⟨m, hm⟩ : ∃ m, n = m + 1 := ⟨n - 1, by omega⟩
        have ht : t = m := by omega
        have hi9 : i = 1 := by omega
        have hQ3 : Q ≤ 2 := by have h := HTOP.out m hm; have h2 := HQ.out; rw [ht] at h2; omega
        subst ht
        subst hm
        subst hi9
        have hn2 : ((t + 1 : Nat) : Int) > 0 := by omega
        have hn3 : (t : Int) + 1 > 0 := by omega
        rcases (show Q = 0 ∨ Q = 1 ∨ Q = 2 by omega) with h | h | h
        · subst h
          have HNEW : Hid (strOfNums [84] ++ strOfNums (sfx t q) = strOfNums (faL (t + 1) q)) := hid (by
            show _ = strOfNums (thN (q / 2 ^ t) :: sfx t q)
            rw [← HQ.out]; exact (son_cons _ _).symm)
          go_upto_region 9 with (fail)
          refine wp_region_x (fun w' => Bx w' (w.heap.size + 1) 73 #[.string (strOfNums (sfx t q)), .int .i64 c, .int .i64 0] ∧ Bx w' (w.heap.size) 73 #[.string (ByteArray.mk #[]), .int .i64 0, .int .i64 0] ∧ Below w.heap.size w w') 8 (by kernel_rfl) ⟨XF.out, XR.out, hB.drew⟩ (fun hS0 => ?_)
          refine wpAnyX_take (i := 0) (oi := _) (v := ?_) rfl (by kernel_rfl) (by kernel_rfl) (by kernel_rfl) (by kernel_rfl) (fun _ _ _ h => h) (Or.inl ⟨by rfl, ?_⟩) hS0 ?_
          rotate_left 1
          · (intro W8 hSw;  go_simp; (try with_reducible rfl))
          change wpAnyX _ _ _ _ _ _ _ _ (Act.put _ (some 31) _) _
          try simp only [Act.put, List.setIfInBounds_toArray, List.set_cons_zero, List.set_cons_succ]
          refine wpAnyX_take (i := 1) (oi := _) (v := ?_) rfl (by kernel_rfl) (by kernel_rfl) (by kernel_rfl) (by kernel_rfl) (fun _ _ _ h => h) (Or.inl ⟨by rfl, ?_⟩) hS0 ?_
          rotate_left 1
          · (intro W8 hSw;  go_simp; (try with_reducible rfl))
          change wpAnyX _ _ _ _ _ _ _ _ (Act.put _ (some 32) _) _
          try simp only [Act.put, List.setIfInBounds_toArray, List.set_cons_zero, List.set_cons_succ]
          refine wpAnyX_take (i := 4) (oi := _) (v := ?_) rfl (by kernel_rfl) (by kernel_rfl) (by kernel_rfl) (by kernel_rfl) (fun _ _ _ h => h) (Or.inl ⟨by rfl, ?_⟩) hS0 ?_
          rotate_left 1
          · (intro W8 hSw;  go_simp; (try with_reducible rfl))
          change wpAnyX _ _ _ _ _ _ _ _ (Act.put _ (some 35) _) _
          try simp only [Act.put, List.setIfInBounds_toArray, List.set_cons_zero, List.set_cons_succ]
          refine wpAnyX_take (i := 5) (oi := _) (v := ?_) rfl (by kernel_rfl) (by kernel_rfl) (by kernel_rfl) (by kernel_rfl) (fun _ _ _ h => h) (Or.inl ⟨by rfl, ?_⟩) hS0 ?_
          rotate_left 1
          · (intro W8 hSw; have e0 := hSw.1.c 0 rfl; go_simp; (try with_reducible rfl))
          change wpAnyX _ _ _ _ _ _ _ _ (Act.put _ (some 36) _) _
          try simp only [Act.put, List.setIfInBounds_toArray, List.set_cons_zero, List.set_cons_succ]
          refine wpAnyX_one (i := 2) (o := _) rfl (by kernel_rfl) (fun K hK => ?_)
          go_simp
          refine hK.out _ _ (fun _ => ⟨hS0.1.alloc _, hS0.2.1.alloc _, hS0.2.2.alloc hS0.2.2.size _⟩) (fun hS1 => ?_)
          clear hK K
          have hS1 := hS1 (by decide)
          try simp only [Act.put, List.setIfInBounds_toArray, List.set_cons_zero, List.set_cons_succ]
          have Bc : Bx ((wr.alloc (.cells #[.int .u8 84] 5)).drew) wr.heap.size 5 #[.int .u8 84] := Bx.new (W := wr) rfl
          change wpAnyX _ _ _ _ _ _ _ _ _ ((wr.alloc (.cells #[.int .u8 84] 5)).drew)
          obtain ⟨w3, hw3⟩ : ∃ w3 : World, w3 = (wr.alloc (.cells #[.int .u8 84] 5)).drew := ⟨_, rfl⟩
          have hT1 : (fun w' => Bx w' (w.heap.size + 1) 73 #[.string (strOfNums (sfx t q)), .int .i64 c, .int .i64 0] ∧ Bx w' (w.heap.size) 73 #[.string (ByteArray.mk #[]), .int .i64 0, .int .i64 0] ∧ Below w.heap.size w w') w3 := by rw [hw3]; exact hS1
          rw [← hw3] at Bc ⊢
          clear hw3 hS1 hS0
          have hcv := run_convert_bytes_arg (P := Try.prog) w3 136 5 Try.underlying136 Try.underlying5 wr.heap.size 0 1 1 [84] rfl (fun i9 hi9 => by have h9 : i9 = 0 := (by omega); subst h9; exact Bc.c 0 rfl) 9 Try.underlying9
          refine wpAnyX_one (i := 3) (o := _) rfl (by kernel_rfl) (fun K hK => ?_)
          go_simp
          refine hK.out _ _ (fun _ => hT1) (fun hS1 => ?_)
          clear hK K
          have hS1 := hS1 (by decide)
          try simp only [Act.put, List.setIfInBounds_toArray, List.set_cons_zero, List.set_cons_succ]
          clear hcv
          have hsz : ¬ (9223372036854775807 < (strOfNums [84]).size + (strOfNums (sfx t q)).size) := by rw [strOfNums_size, strOfNums_size, sfx_len]; simp only [List.length_cons, List.length_nil]; omega
          refine wpAnyX_take (i := 6) (oi := _) (v := ?_) rfl (by kernel_rfl) (by kernel_rfl) (by kernel_rfl) (by kernel_rfl) (fun _ _ _ h => h) (Or.inl ⟨by rfl, ?_⟩) hS1 ?_
          rotate_left 1
          · (intro W8 hSw; have e0 := hSw.1.c 0 rfl; go_simp; (try with_reducible rfl))
          change wpAnyX _ _ _ _ _ _ _ _ (Act.put _ (some 37) _) _
          try simp only [Act.put, List.setIfInBounds_toArray, List.set_cons_zero, List.set_cons_succ]
          refine wpAnyX_take (i := 7) (oi := _) (v := ?_) rfl (by kernel_rfl) (by kernel_rfl) (by kernel_rfl) (by kernel_rfl) (fun _ _ _ h => h) (Or.inl ⟨by rfl, ?_⟩) hS1 ?_
          rotate_left 1
          · (intro W8 hSw;  go_simp; (try with_reducible rfl))
          change wpAnyX _ _ _ _ _ _ _ _ (Act.put _ (some 38) _) _
          try simp only [Act.put, List.setIfInBounds_toArray, List.set_cons_zero, List.set_cons_succ]
          have k0 := hS1.1.c 0 rfl
          have kf := hS1.1.f
          have kl := hS1.1.lt
          refine wpAnyX_one (i := 8) (o := _) rfl (by kernel_rfl) (fun K hK => ?_)
          go_simp
          refine hK.out _ _ (fun h => absurd rfl h) (fun hS2 => ?_)
          clear hK K
          try simp only [Act.put, List.setIfInBounds_toArray, List.set_cons_zero, List.set_cons_succ]
          refine wpAnyX_done (by kernel_rfl) ?_ _
          have hN := HNEW.out
          have XF3 : Bx (w3.setCell ⟨w.heap.size + 1, 0, none⟩ (.string (strOfNums [84] ++ strOfNums (sfx t q)))) (w.heap.size + 1) 73 #[.string (strOfNums (faL (t + 1) q)), .int .i64 c, .int .i64 0] := by rw [hN]; exact hS1.1.set rfl
          have XR3 : Bx (w3.setCell ⟨w.heap.size + 1, 0, none⟩ (.string (strOfNums [84] ++ strOfNums (sfx t q)))) (w.heap.size) 73 #[.string (ByteArray.mk #[]), .int .i64 0, .int .i64 0] := hS1.2.1.far (by omega)
          have hB3 : Below w.heap.size w (w3.setCell ⟨w.heap.size + 1, 0, none⟩ (.string (strOfNums [84] ++ strOfNums (sfx t q)))) := hS1.2.2.setCell (by show _ ≤ w.heap.size + 1; omega) _
          clear hN hS1 hS2 hT1 k0 kf kl
          generalize w3.setCell ⟨w.heap.size + 1, 0, none⟩ (.string (strOfNums [84] ++ strOfNums (sfx t q))) = w4 at XF3 XR3 hB3 ⊢
          replace XF := hid XF3
          replace XR := hid XR3
          clear XF3 XR3 hB
          have x0 := XF.out.c 0 rfl
          have x1 := XF.out.c 1 rfl
          have x2 := XF.out.c 2 rfl
          have r0 := XR.out.c 0 rfl
          have r1 := XR.out.c 1 rfl
          have r2 := XR.out.c 2 rfl
          have rf := XR.out.f
          have rl := XR.out.lt
          go_wp2_with (fail)
          refine bodyPost_ret (v := fmv (strOfNums (faL (t + 1) q)) c 0) (by first | (simp only [results, Try.results103]; go_simp; done) | (simp [results, Try.results103, go_sem, *]; done)) rfl ⟨rfl, ((hB3.setCell (by show _ ≤ w.heap.size; omega) _).setCell (by show _ ≤ w.heap.size; omega) _).setCell (by show _ ≤ w.heap.size; omega) _⟩
        · subst h
          have HNEW : Hid (strOfNums [72] ++ strOfNums (sfx t q) = strOfNums (faL (t + 1) q)) := hid (by
            show _ = strOfNums (thN (q / 2 ^ t) :: sfx t q)
            rw [← HQ.out]; exact (son_cons _ _).symm)
          go_upto_region 9 with (fail)
          refine wp_region_x (fun w' => Bx w' (w.heap.size + 1) 73 #[.string (strOfNums (sfx t q)), .int .i64 c, .int .i64 0] ∧ Bx w' (w.heap.size) 73 #[.string (ByteArray.mk #[]), .int .i64 0, .int .i64 0] ∧ Below w.heap.size w w') 8 (by kernel_rfl) ⟨XF.out, XR.out, hB.drew⟩ (fun hS0 => ?_)
          refine wpAnyX_take (i := 0) (oi := _) (v := ?_) rfl (by kernel_rfl) (by kernel_rfl) (by kernel_rfl) (by kernel_rfl) (fun _ _ _ h => h) (Or.inl ⟨by rfl, ?_⟩) hS0 ?_
          rotate_left 1
          · (intro W8 hSw;  go_simp; (try with_reducible rfl))
          change wpAnyX _ _ _ _ _ _ _ _ (Act.put _ (some 31) _) _
          try simp only [Act.put, List.setIfInBounds_toArray, List.set_cons_zero, List.set_cons_succ]
          refine wpAnyX_take (i := 1) (oi := _) (v := ?_) rfl (by kernel_rfl) (by kernel_rfl) (by kernel_rfl) (by kernel_rfl) (fun _ _ _ h => h) (Or.inl ⟨by rfl, ?_⟩) hS0 ?_
          rotate_left 1
          · (intro W8 hSw;  go_simp; (try with_reducible rfl))
          change wpAnyX _ _ _ _ _ _ _ _ (Act.put _ (some 32) _) _
          try simp only [Act.put, List.setIfInBounds_toArray, List.set_cons_zero, List.set_cons_succ]
          refine wpAnyX_take (i := 4) (oi := _) (v := ?_) rfl (by kernel_rfl) (by kernel_rfl) (by kernel_rfl) (by kernel_rfl) (fun _ _ _ h => h) (Or.inl ⟨by rfl, ?_⟩) hS0 ?_
          rotate_left 1
          · (intro W8 hSw;  go_simp; (try with_reducible rfl))
          change wpAnyX _ _ _ _ _ _ _ _ (Act.put _ (some 35) _) _
          try simp only [Act.put, List.setIfInBounds_toArray, List.set_cons_zero, List.set_cons_succ]
          refine wpAnyX_take (i := 5) (oi := _) (v := ?_) rfl (by kernel_rfl) (by kernel_rfl) (by kernel_rfl) (by kernel_rfl) (fun _ _ _ h => h) (Or.inl ⟨by rfl, ?_⟩) hS0 ?_
          rotate_left 1
          · (intro W8 hSw; have e0 := hSw.1.c 0 rfl; go_simp; (try with_reducible rfl))
          change wpAnyX _ _ _ _ _ _ _ _ (Act.put _ (some 36) _) _
          try simp only [Act.put, List.setIfInBounds_toArray, List.set_cons_zero, List.set_cons_succ]
          refine wpAnyX_one (i := 2) (o := _) rfl (by kernel_rfl) (fun K hK => ?_)
          go_simp
          refine hK.out _ _ (fun _ => ⟨hS0.1.alloc _, hS0.2.1.alloc _, hS0.2.2.alloc hS0.2.2.size _⟩) (fun hS1 => ?_)
          clear hK K
          have hS1 := hS1 (by decide)
          try simp only [Act.put, List.setIfInBounds_toArray, List.set_cons_zero, List.set_cons_succ]
          have Bc : Bx ((wr.alloc (.cells #[.int .u8 72] 5)).drew) wr.heap.size 5 #[.int .u8 72] := Bx.new (W := wr) rfl
          change wpAnyX _ _ _ _ _ _ _ _ _ ((wr.alloc (.cells #[.int .u8 72] 5)).drew)
          obtain ⟨w3, hw3⟩ : ∃ w3 : World, w3 = (wr.alloc (.cells #[.int .u8 72] 5)).drew := ⟨_, rfl⟩
          have hT1 : (fun w' => Bx w' (w.heap.size + 1) 73 #[.string (strOfNums (sfx t q)), .int .i64 c, .int .i64 0] ∧ Bx w' (w.heap.size) 73 #[.string (ByteArray.mk #[]), .int .i64 0, .int .i64 0] ∧ Below w.heap.size w w') w3 := by rw [hw3]; exact hS1
          rw [← hw3] at Bc ⊢
          clear hw3 hS1 hS0
          have hcv := run_convert_bytes_arg (P := Try.prog) w3 136 5 Try.underlying136 Try.underlying5 wr.heap.size 0 1 1 [72] rfl (fun i9 hi9 => by have h9 : i9 = 0 := (by omega); subst h9; exact Bc.c 0 rfl) 9 Try.underlying9
          refine wpAnyX_one (i := 3) (o := _) rfl (by kernel_rfl) (fun K hK => ?_)
          go_simp
          refine hK.out _ _ (fun _ => hT1) (fun hS1 => ?_)
          clear hK K
          have hS1 := hS1 (by decide)
          try simp only [Act.put, List.setIfInBounds_toArray, List.set_cons_zero, List.set_cons_succ]
          clear hcv
          have hsz : ¬ (9223372036854775807 < (strOfNums [72]).size + (strOfNums (sfx t q)).size) := by rw [strOfNums_size, strOfNums_size, sfx_len]; simp only [List.length_cons, List.length_nil]; omega
          refine wpAnyX_take (i := 6) (oi := _) (v := ?_) rfl (by kernel_rfl) (by kernel_rfl) (by kernel_rfl) (by kernel_rfl) (fun _ _ _ h => h) (Or.inl ⟨by rfl, ?_⟩) hS1 ?_
          rotate_left 1
          · (intro W8 hSw; have e0 := hSw.1.c 0 rfl; go_simp; (try with_reducible rfl))
          change wpAnyX _ _ _ _ _ _ _ _ (Act.put _ (some 37) _) _
          try simp only [Act.put, List.setIfInBounds_toArray, List.set_cons_zero, List.set_cons_succ]
          refine wpAnyX_take (i := 7) (oi := _) (v := ?_) rfl (by kernel_rfl) (by kernel_rfl) (by kernel_rfl) (by kernel_rfl) (fun _ _ _ h => h) (Or.inl ⟨by rfl, ?_⟩) hS1 ?_
          rotate_left 1
          · (intro W8 hSw;  go_simp; (try with_reducible rfl))
          change wpAnyX _ _ _ _ _ _ _ _ (Act.put _ (some 38) _) _
          try simp only [Act.put, List.setIfInBounds_toArray, List.set_cons_zero, List.set_cons_succ]
          have k0 := hS1.1.c 0 rfl
          have kf := hS1.1.f
          have kl := hS1.1.lt
          refine wpAnyX_one (i := 8) (o := _) rfl (by kernel_rfl) (fun K hK => ?_)
          go_simp
          refine hK.out _ _ (fun h => absurd rfl h) (fun hS2 => ?_)
          clear hK K
          try simp only [Act.put, List.setIfInBounds_toArray, List.set_cons_zero, List.set_cons_succ]
          refine wpAnyX_done (by kernel_rfl) ?_ _
          have hN := HNEW.out
          have XF3 : Bx (w3.setCell ⟨w.heap.size + 1, 0, none⟩ (.string (strOfNums [72] ++ strOfNums (sfx t q)))) (w.heap.size + 1) 73 #[.string (strOfNums (faL (t + 1) q)), .int .i64 c, .int .i64 0] := by rw [hN]; exact hS1.1.set rfl
          have XR3 : Bx (w3.setCell ⟨w.heap.size + 1, 0, none⟩ (.string (strOfNums [72] ++ strOfNums (sfx t q)))) (w.heap.size) 73 #[.string (ByteArray.mk #[]), .int .i64 0, .int .i64 0] := hS1.2.1.far (by omega)
          have hB3 : Below w.heap.size w (w3.setCell ⟨w.heap.size + 1, 0, none⟩ (.string (strOfNums [72] ++ strOfNums (sfx t q)))) := hS1.2.2.setCell (by show _ ≤ w.heap.size + 1; omega) _
          clear hN hS1 hS2 hT1 k0 kf kl
          generalize w3.setCell ⟨w.heap.size + 1, 0, none⟩ (.string (strOfNums [72] ++ strOfNums (sfx t q))) = w4 at XF3 XR3 hB3 ⊢
          replace XF := hid XF3
          replace XR := hid XR3
          clear XF3 XR3 hB
          have x0 := XF.out.c 0 rfl
          have x1 := XF.out.c 1 rfl
          have x2 := XF.out.c 2 rfl
          have r0 := XR.out.c 0 rfl
          have r1 := XR.out.c 1 rfl
          have r2 := XR.out.c 2 rfl
          have rf := XR.out.f
          have rl := XR.out.lt
          go_wp2_with (fail)
          refine bodyPost_ret (v := fmv (strOfNums (faL (t + 1) q)) c 0) (by first | (simp only [results, Try.results103]; go_simp; done) | (simp [results, Try.results103, go_sem, *]; done)) rfl ⟨rfl, ((hB3.setCell (by show _ ≤ w.heap.size; omega) _).setCell (by show _ ≤ w.heap.size; omega) _).setCell (by show _ ≤ w.heap.size; omega) _⟩
        · subst h
          have HNEW : Hid (strOfNums [83] ++ strOfNums (sfx t q) = strOfNums (faL (t + 1) q)) := hid (by
            show _ = strOfNums (thN (q / 2 ^ t) :: sfx t q)
            rw [← HQ.out]; exact (son_cons _ _).symm)
          go_upto_region 9 with (fail)
          refine wp_region_x (fun w' => Bx w' (w.heap.size + 1) 73 #[.string (strOfNums (sfx t q)), .int .i64 c, .int .i64 0] ∧ Bx w' (w.heap.size) 73 #[.string (ByteArray.mk #[]), .int .i64 0, .int .i64 0] ∧ Below w.heap.size w w') 8 (by kernel_rfl) ⟨XF.out, XR.out, hB.drew⟩ (fun hS0 => ?_)
          refine wpAnyX_take (i := 0) (oi := _) (v := ?_) rfl (by kernel_rfl) (by kernel_rfl) (by kernel_rfl) (by kernel_rfl) (fun _ _ _ h => h) (Or.inl ⟨by rfl, ?_⟩) hS0 ?_
          rotate_left 1
          · (intro W8 hSw;  go_simp; (try with_reducible rfl))
          change wpAnyX _ _ _ _ _ _ _ _ (Act.put _ (some 31) _) _
          try simp only [Act.put, List.setIfInBounds_toArray, List.set_cons_zero, List.set_cons_succ]
          refine wpAnyX_take (i := 1) (oi := _) (v := ?_) rfl (by kernel_rfl) (by kernel_rfl) (by kernel_rfl) (by kernel_rfl) (fun _ _ _ h => h) (Or.inl ⟨by rfl, ?_⟩) hS0 ?_
          rotate_left 1
          · (intro W8 hSw;  go_simp; (try with_reducible rfl))
          change wpAnyX _ _ _ _ _ _ _ _ (Act.put _ (some 32) _) _
          try simp only [Act.put, List.setIfInBounds_toArray, List.set_cons_zero, List.set_cons_succ]
          refine wpAnyX_take (i := 4) (oi := _) (v := ?_) rfl (by kernel_rfl) (by kernel_rfl) (by kernel_rfl) (by kernel_rfl) (fun _ _ _ h => h) (Or.inl ⟨by rfl, ?_⟩) hS0 ?_
          rotate_left 1
          · (intro W8 hSw;  go_simp; (try with_reducible rfl))
          change wpAnyX _ _ _ _ _ _ _ _ (Act.put _ (some 35) _) _
          try simp only [Act.put, List.setIfInBounds_toArray, List.set_cons_zero, List.set_cons_succ]
          refine wpAnyX_take (i := 5) (oi := _) (v := ?_) rfl (by kernel_rfl) (by kernel_rfl) (by kernel_rfl) (by kernel_rfl) (fun _ _ _ h => h) (Or.inl ⟨by rfl, ?_⟩) hS0 ?_
          rotate_left 1
          · (intro W8 hSw; have e0 := hSw.1.c 0 rfl; go_simp; (try with_reducible rfl))
          change wpAnyX _ _ _ _ _ _ _ _ (Act.put _ (some 36) _) _
          try simp only [Act.put, List.setIfInBounds_toArray, List.set_cons_zero, List.set_cons_succ]
          refine wpAnyX_one (i := 2) (o := _) rfl (by kernel_rfl) (fun K hK => ?_)
          go_simp
          refine hK.out _ _ (fun _ => ⟨hS0.1.alloc _, hS0.2.1.alloc _, hS0.2.2.alloc hS0.2.2.size _⟩) (fun hS1 => ?_)
          clear hK K
          have hS1 := hS1 (by decide)
          try simp only [Act.put, List.setIfInBounds_toArray, List.set_cons_zero, List.set_cons_succ]
          have Bc : Bx ((wr.alloc (.cells #[.int .u8 83] 5)).drew) wr.heap.size 5 #[.int .u8 83] := Bx.new (W := wr) rfl
          change wpAnyX _ _ _ _ _ _ _ _ _ ((wr.alloc (.cells #[.int .u8 83] 5)).drew)
          obtain ⟨w3, hw3⟩ : ∃ w3 : World, w3 = (wr.alloc (.cells #[.int .u8 83] 5)).drew := ⟨_, rfl⟩
          have hT1 : (fun w' => Bx w' (w.heap.size + 1) 73 #[.string (strOfNums (sfx t q)), .int .i64 c, .int .i64 0] ∧ Bx w' (w.heap.size) 73 #[.string (ByteArray.mk #[]), .int .i64 0, .int .i64 0] ∧ Below w.heap.size w w') w3 := by rw [hw3]; exact hS1
          rw [← hw3] at Bc ⊢
          clear hw3 hS1 hS0
          have hcv := run_convert_bytes_arg (P := Try.prog) w3 136 5 Try.underlying136 Try.underlying5 wr.heap.size 0 1 1 [83] rfl (fun i9 hi9 => by have h9 : i9 = 0 := (by omega); subst h9; exact Bc.c 0 rfl) 9 Try.underlying9
          refine wpAnyX_one (i := 3) (o := _) rfl (by kernel_rfl) (fun K hK => ?_)
          go_simp
          refine hK.out _ _ (fun _ => hT1) (fun hS1 => ?_)
          clear hK K
          have hS1 := hS1 (by decide)
          try simp only [Act.put, List.setIfInBounds_toArray, List.set_cons_zero, List.set_cons_succ]
          clear hcv
          have hsz : ¬ (9223372036854775807 < (strOfNums [83]).size + (strOfNums (sfx t q)).size) := by rw [strOfNums_size, strOfNums_size, sfx_len]; simp only [List.length_cons, List.length_nil]; omega
          refine wpAnyX_take (i := 6) (oi := _) (v := ?_) rfl (by kernel_rfl) (by kernel_rfl) (by kernel_rfl) (by kernel_rfl) (fun _ _ _ h => h) (Or.inl ⟨by rfl, ?_⟩) hS1 ?_
          rotate_left 1
          · (intro W8 hSw; have e0 := hSw.1.c 0 rfl; go_simp; (try with_reducible rfl))
          change wpAnyX _ _ _ _ _ _ _ _ (Act.put _ (some 37) _) _
          try simp only [Act.put, List.setIfInBounds_toArray, List.set_cons_zero, List.set_cons_succ]
          refine wpAnyX_take (i := 7) (oi := _) (v := ?_) rfl (by kernel_rfl) (by kernel_rfl) (by kernel_rfl) (by kernel_rfl) (fun _ _ _ h => h) (Or.inl ⟨by rfl, ?_⟩) hS1 ?_
          rotate_left 1
          · (intro W8 hSw;  go_simp; (try with_reducible rfl))
          change wpAnyX _ _ _ _ _ _ _ _ (Act.put _ (some 38) _) _
          try simp only [Act.put, List.setIfInBounds_toArray, List.set_cons_zero, List.set_cons_succ]
          have k0 := hS1.1.c 0 rfl
          have kf := hS1.1.f
          have kl := hS1.1.lt
          refine wpAnyX_one (i := 8) (o := _) rfl (by kernel_rfl) (fun K hK => ?_)
          go_simp
          refine hK.out _ _ (fun h => absurd rfl h) (fun hS2 => ?_)
          clear hK K
          try simp only [Act.put, List.setIfInBounds_toArray, List.set_cons_zero, List.set_cons_succ]
          refine wpAnyX_done (by kernel_rfl) ?_ _
          have hN := HNEW.out
          have XF3 : Bx (w3.setCell ⟨w.heap.size + 1, 0, none⟩ (.string (strOfNums [83] ++ strOfNums (sfx t q)))) (w.heap.size + 1) 73 #[.string (strOfNums (faL (t + 1) q)), .int .i64 c, .int .i64 0] := by rw [hN]; exact hS1.1.set rfl
          have XR3 : Bx (w3.setCell ⟨w.heap.size + 1, 0, none⟩ (.string (strOfNums [83] ++ strOfNums (sfx t q)))) (w.heap.size) 73 #[.string (ByteArray.mk #[]), .int .i64 0, .int .i64 0] := hS1.2.1.far (by omega)
          have hB3 : Below w.heap.size w (w3.setCell ⟨w.heap.size + 1, 0, none⟩ (.string (strOfNums [83] ++ strOfNums (sfx t q)))) := hS1.2.2.setCell (by show _ ≤ w.heap.size + 1; omega) _
          clear hN hS1 hS2 hT1 k0 kf kl
          generalize w3.setCell ⟨w.heap.size + 1, 0, none⟩ (.string (strOfNums [83] ++ strOfNums (sfx t q))) = w4 at XF3 XR3 hB3 ⊢
          replace XF := hid XF3
          replace XR := hid XR3
          clear XF3 XR3 hB
          have x0 := XF.out.c 0 rfl
          have x1 := XF.out.c 1 rfl
          have x2 := XF.out.c 2 rfl
          have r0 := XR.out.c 0 rfl
          have r1 := XR.out.c 1 rfl
          have r2 := XR.out.c 2 rfl
          have rf := XR.out.f
          have rl := XR.out.lt
          go_wp2_with (fail)
          refine bodyPost_ret (v := fmv (strOfNums (faL (t + 1) q)) c 0) (by first | (simp only [results, Try.results103]; go_simp; done) | (simp [results, Try.results103, go_sem, *]; done)) rfl ⟨rfl, ((hB3.setCell (by show _ ≤ w.heap.size; omega) _).setCell (by show _ ≤ w.heap.size; omega) _).setCell (by show _ ≤ w.heap.size; omega) _⟩
    | succ m =>
      obtain ⟨i2, rfl⟩ : ∃ j, i = j + 1 := ⟨i - 1, by omega⟩
      have hi1 : ((i2 + 1 : Nat) : Int) > 1 := by omega
      have hi2 : ((i2 + 1 : Nat) : Int) ≤ 20 := by omega
      have hi3 : (i2 : Int) + 1 > 1 := by omega
      have hi4 : 1 < (i2 : Int) + 1 := by omega
      have hi5 : (i2 : Int) ≤ 20 := by omega
      have e5 : (Q : Int) ≤ 1600000 := by omega
      obtain ⟨Q2, hQ2e⟩ : ∃ Q2, Q2 = Q / 2 := ⟨_, rfl⟩
      have e6 : (Q : Int) / 2 = (Q2 : Int) := by omega
      have e7 : Q2 ≤ 1600000 := by omega
      rcases Nat.mod_two_eq_zero_or_one Q with hm | hm
      · have e3 : (Q : Int) % 2 = 0 := by omega
        have e4 : (Q : Int).tmod 2 = 0 := by rw [Int.tmod_eq_emod_of_nonneg (by omega)]; exact e3
        have HNEW : Hid (strOfNums [72] ++ strOfNums (sfx t q) = strOfNums (sfx (t + 1) q)) := hid (by
          have h := hsN_0 hm
          rw [HQ.out] at h
          show _ = strOfNums (hsN (q / 2 ^ t) :: sfx t q)
          rw [h]; exact (son_cons _ _).symm)
        have hQ2 : Hid (Q2 = q / 2 ^ (t + 1)) := hid (by rw [hQ2e, HQ.out, div_s])
        clear hm hQ2e
        go_upto_region 6 with (fail)
        refine wp_region_x (fun w' => Bx w' (w.heap.size + 1) 73 #[.string (strOfNums (sfx t q)), .int .i64 c, .int .i64 0] ∧ Bx w' (w.heap.size) 73 #[.string (ByteArray.mk #[]), .int .i64 0, .int .i64 0] ∧ Below w.heap.size w w') 9 (by kernel_rfl) ⟨XF.out, XR.out, hB.drew⟩ (fun hS0 => ?_)
        refine wpAnyX_take (i := 0) (oi := _) (v := ?_) rfl (by kernel_rfl) (by kernel_rfl) (by kernel_rfl) (by kernel_rfl) (fun _ _ _ h => h) (Or.inl ⟨by rfl, ?_⟩) hS0 ?_
        rotate_left 1
        · (intro W8 hSw;  go_simp; (try with_reducible rfl))
        change wpAnyX _ _ _ _ _ _ _ _ (Act.put _ (some 18) _) _
        try simp only [Act.put, List.setIfInBounds_toArray, List.set_cons_zero, List.set_cons_succ]
        refine wpAnyX_take (i := 1) (oi := _) (v := ?_) rfl (by kernel_rfl) (by kernel_rfl) (by kernel_rfl) (by kernel_rfl) (fun _ _ _ h => h) (Or.inl ⟨by rfl, ?_⟩) hS0 ?_
        rotate_left 1
        · (intro W8 hSw;  go_simp; (try with_reducible rfl))
        change wpAnyX _ _ _ _ _ _ _ _ (Act.put _ (some 19) _) _
        try simp only [Act.put, List.setIfInBounds_toArray, List.set_cons_zero, List.set_cons_succ]
        refine wpAnyX_take (i := 2) (oi := _) (v := ?_) rfl (by kernel_rfl) (by kernel_rfl) (by kernel_rfl) (by kernel_rfl) (fun _ _ _ h => h) (Or.inl ⟨by rfl, ?_⟩) hS0 ?_
        rotate_left 1
        · (intro W8 hSw;  go_simp; (try with_reducible rfl))
        change wpAnyX _ _ _ _ _ _ _ _ (Act.put _ (some 20) _) _
        try simp only [Act.put, List.setIfInBounds_toArray, List.set_cons_zero, List.set_cons_succ]
        refine wpAnyX_take (i := 5) (oi := _) (v := ?_) rfl (by kernel_rfl) (by kernel_rfl) (by kernel_rfl) (by kernel_rfl) (fun _ _ _ h => h) (Or.inl ⟨by rfl, ?_⟩) hS0 ?_
        rotate_left 1
        · (intro W8 hSw; have e0 := hSw.1.c 0 rfl; go_simp; (try with_reducible rfl))
        change wpAnyX _ _ _ _ _ _ _ _ (Act.put _ (some 23) _) _
        try simp only [Act.put, List.setIfInBounds_toArray, List.set_cons_zero, List.set_cons_succ]
        refine wpAnyX_take (i := 6) (oi := _) (v := ?_) rfl (by kernel_rfl) (by kernel_rfl) (by kernel_rfl) (by kernel_rfl) (fun _ _ _ h => h) (Or.inl ⟨by rfl, ?_⟩) hS0 ?_
        rotate_left 1
        · (intro W8 hSw; have e0 := hSw.1.c 0 rfl; go_simp; (try with_reducible rfl))
        change wpAnyX _ _ _ _ _ _ _ _ (Act.put _ (some 24) _) _
        try simp only [Act.put, List.setIfInBounds_toArray, List.set_cons_zero, List.set_cons_succ]
        refine wpAnyX_one (i := 3) (o := _) rfl (by kernel_rfl) (fun K hK => ?_)
        go_simp
        refine hK.out _ _ (fun _ => ⟨hS0.1.alloc _, hS0.2.1.alloc _, hS0.2.2.alloc hS0.2.2.size _⟩) (fun hS1 => ?_)
        clear hK K
        have hS1 := hS1 (by decide)
        try simp only [Act.put, List.setIfInBounds_toArray, List.set_cons_zero, List.set_cons_succ]
        have Bc : Bx ((wr.alloc (.cells #[.int .u8 72] 5)).drew) wr.heap.size 5 #[.int .u8 72] := Bx.new (W := wr) rfl
        change wpAnyX _ _ _ _ _ _ _ _ _ ((wr.alloc (.cells #[.int .u8 72] 5)).drew)
        obtain ⟨w3, hw3⟩ : ∃ w3 : World, w3 = (wr.alloc (.cells #[.int .u8 72] 5)).drew := ⟨_, rfl⟩
        have hT1 : (fun w' => Bx w' (w.heap.size + 1) 73 #[.string (strOfNums (sfx t q)), .int .i64 c, .int .i64 0] ∧ Bx w' (w.heap.size) 73 #[.string (ByteArray.mk #[]), .int .i64 0, .int .i64 0] ∧ Below w.heap.size w w') w3 := by rw [hw3]; exact hS1
        rw [← hw3] at Bc ⊢
        clear hw3 hS1 hS0
        have hcv := run_convert_bytes_arg (P := Try.prog) w3 136 5 Try.underlying136 Try.underlying5 wr.heap.size 0 1 1 [72] rfl (fun i9 hi9 => by have h9 : i9 = 0 := (by omega); subst h9; exact Bc.c 0 rfl) 9 Try.underlying9
        refine wpAnyX_one (i := 4) (o := _) rfl (by kernel_rfl) (fun K hK => ?_)
        go_simp
        refine hK.out _ _ (fun _ => hT1) (fun hS1 => ?_)
        clear hK K
        have hS1 := hS1 (by decide)
        try simp only [Act.put, List.setIfInBounds_toArray, List.set_cons_zero, List.set_cons_succ]
        clear hcv
        have hsz : ¬ (9223372036854775807 < (strOfNums [72]).size + (strOfNums (sfx t q)).size) := by rw [strOfNums_size, strOfNums_size, sfx_len]; simp only [List.length_cons, List.length_nil]; omega
        refine wpAnyX_take (i := 7) (oi := _) (v := ?_) rfl (by kernel_rfl) (by kernel_rfl) (by kernel_rfl) (by kernel_rfl) (fun _ _ _ h => h) (Or.inl ⟨by rfl, ?_⟩) hS1 ?_
        rotate_left 1
        · (intro W8 hSw;  go_simp; (try with_reducible rfl))
        change wpAnyX _ _ _ _ _ _ _ _ (Act.put _ (some 25) _) _
        try simp only [Act.put, List.setIfInBounds_toArray, List.set_cons_zero, List.set_cons_succ]
        refine wpAnyX_take (i := 8) (oi := _) (v := ?_) rfl (by kernel_rfl) (by kernel_rfl) (by kernel_rfl) (by kernel_rfl) (fun _ _ _ h => h) (Or.inl ⟨by rfl, ?_⟩) hS1 ?_
        rotate_left 1
        · (intro W8 hSw;  go_simp; (try with_reducible rfl))
        change wpAnyX _ _ _ _ _ _ _ _ (Act.put _ (some 26) _) _
        try simp only [Act.put, List.setIfInBounds_toArray, List.set_cons_zero, List.set_cons_succ]
        have k0 := hS1.1.c 0 rfl
        have kf := hS1.1.f
        have kl := hS1.1.lt
        refine wpAnyX_one (i := 9) (o := _) rfl (by kernel_rfl) (fun K hK => ?_)
        go_simp
        refine hK.out _ _ (fun h => absurd rfl h) (fun hS2 => ?_)
        clear hK K
        try simp only [Act.put, List.setIfInBounds_toArray, List.set_cons_zero, List.set_cons_succ]
        refine wpAnyX_done (by kernel_rfl) ?_ _
        have hN := HNEW.out
        have XF3 : Bx (w3.setCell ⟨w.heap.size + 1, 0, none⟩ (.string (strOfNums [72] ++ strOfNums (sfx t q)))) (w.heap.size + 1) 73 #[.string (strOfNums (sfx (t + 1) q)), .int .i64 c, .int .i64 0] := by rw [hN]; exact hS1.1.set rfl
        have XR3 : Bx (w3.setCell ⟨w.heap.size + 1, 0, none⟩ (.string (strOfNums [72] ++ strOfNums (sfx t q)))) (w.heap.size) 73 #[.string (ByteArray.mk #[]), .int .i64 0, .int .i64 0] := hS1.2.1.far (by omega)
        have hB3 : Below w.heap.size w (w3.setCell ⟨w.heap.size + 1, 0, none⟩ (.string (strOfNums [72] ++ strOfNums (sfx t q)))) := hS1.2.2.setCell (by show _ ≤ w.heap.size + 1; omega) _
        clear hN hS1 hS2 hT1 k0 kf kl
        generalize w3.setCell ⟨w.heap.size + 1, 0, none⟩ (.string (strOfNums [72] ++ strOfNums (sfx t q))) = w4 at XF3 XR3 hB3 ⊢
        replace XF := hid XF3
        replace XR := hid XR3
        clear XF3 XR3 hB
        go_wp2_with (fail)
        go_roundg m
        case measure => omega
        case rel => exact ⟨t + 1, i2, Q2, by omega, by omega, by first | rfl | rw [e6], by first | rfl | (congr 1; omega) | go_num, hQ2, by omega, XF, XR, hB3⟩
      · have e3 : (Q : Int) % 2 = 1 := by omega
        have e4 : (Q : Int).tmod 2 = 1 := by rw [Int.tmod_eq_emod_of_nonneg (by omega)]; exact e3
        have HNEW : Hid (strOfNums [83] ++ strOfNums (sfx t q) = strOfNums (sfx (t + 1) q)) := hid (by
          have h := hsN_1 hm
          rw [HQ.out] at h
          show _ = strOfNums (hsN (q / 2 ^ t) :: sfx t q)
          rw [h]; exact (son_cons _ _).symm)
        have hQ2 : Hid (Q2 = q / 2 ^ (t + 1)) := hid (by rw [hQ2e, HQ.out, div_s])
        clear hm hQ2e
        go_upto_region 6 with (fail)
        refine wp_region_x (fun w' => Bx w' (w.heap.size + 1) 73 #[.string (strOfNums (sfx t q)), .int .i64 c, .int .i64 0] ∧ Bx w' (w.heap.size) 73 #[.string (ByteArray.mk #[]), .int .i64 0, .int .i64 0] ∧ Below w.heap.size w w') 9 (by kernel_rfl) ⟨XF.out, XR.out, hB.drew⟩ (fun hS0 => ?_)
        refine wpAnyX_take (i := 0) (oi := _) (v := ?_) rfl (by kernel_rfl) (by kernel_rfl) (by kernel_rfl) (by kernel_rfl) (fun _ _ _ h => h) (Or.inl ⟨by rfl, ?_⟩) hS0 ?_
        rotate_left 1
        · (intro W8 hSw;  go_simp; (try with_reducible rfl))
        change wpAnyX _ _ _ _ _ _ _ _ (Act.put _ (some 18) _) _
        try simp only [Act.put, List.setIfInBounds_toArray, List.set_cons_zero, List.set_cons_succ]
        refine wpAnyX_take (i := 1) (oi := _) (v := ?_) rfl (by kernel_rfl) (by kernel_rfl) (by kernel_rfl) (by kernel_rfl) (fun _ _ _ h => h) (Or.inl ⟨by rfl, ?_⟩) hS0 ?_
        rotate_left 1
        · (intro W8 hSw;  go_simp; (try with_reducible rfl))
        change wpAnyX _ _ _ _ _ _ _ _ (Act.put _ (some 19) _) _
        try simp only [Act.put, List.setIfInBounds_toArray, List.set_cons_zero, List.set_cons_succ]
        refine wpAnyX_take (i := 2) (oi := _) (v := ?_) rfl (by kernel_rfl) (by kernel_rfl) (by kernel_rfl) (by kernel_rfl) (fun _ _ _ h => h) (Or.inl ⟨by rfl, ?_⟩) hS0 ?_
        rotate_left 1
        · (intro W8 hSw;  go_simp; (try with_reducible rfl))
        change wpAnyX _ _ _ _ _ _ _ _ (Act.put _ (some 20) _) _
        try simp only [Act.put, List.setIfInBounds_toArray, List.set_cons_zero, List.set_cons_succ]
        refine wpAnyX_take (i := 5) (oi := _) (v := ?_) rfl (by kernel_rfl) (by kernel_rfl) (by kernel_rfl) (by kernel_rfl) (fun _ _ _ h => h) (Or.inl ⟨by rfl, ?_⟩) hS0 ?_
        rotate_left 1
        · (intro W8 hSw; have e0 := hSw.1.c 0 rfl; go_simp; (try with_reducible rfl))
        change wpAnyX _ _ _ _ _ _ _ _ (Act.put _ (some 23) _) _
        try simp only [Act.put, List.setIfInBounds_toArray, List.set_cons_zero, List.set_cons_succ]
        refine wpAnyX_take (i := 6) (oi := _) (v := ?_) rfl (by kernel_rfl) (by kernel_rfl) (by kernel_rfl) (by kernel_rfl) (fun _ _ _ h => h) (Or.inl ⟨by rfl, ?_⟩) hS0 ?_
        rotate_left 1
        · (intro W8 hSw; have e0 := hSw.1.c 0 rfl; go_simp; (try with_reducible rfl))
        change wpAnyX _ _ _ _ _ _ _ _ (Act.put _ (some 24) _) _
        try simp only [Act.put, List.setIfInBounds_toArray, List.set_cons_zero, List.set_cons_succ]
        refine wpAnyX_one (i := 3) (o := _) rfl (by kernel_rfl) (fun K hK => ?_)
        go_simp
        refine hK.out _ _ (fun _ => ⟨hS0.1.alloc _, hS0.2.1.alloc _, hS0.2.2.alloc hS0.2.2.size _⟩) (fun hS1 => ?_)
        clear hK K
        have hS1 := hS1 (by decide)
        try simp only [Act.put, List.setIfInBounds_toArray, List.set_cons_zero, List.set_cons_succ]
        have Bc : Bx ((wr.alloc (.cells #[.int .u8 83] 5)).drew) wr.heap.size 5 #[.int .u8 83] := Bx.new (W := wr) rfl
        change wpAnyX _ _ _ _ _ _ _ _ _ ((wr.alloc (.cells #[.int .u8 83] 5)).drew)
        obtain ⟨w3, hw3⟩ : ∃ w3 : World, w3 = (wr.alloc (.cells #[.int .u8 83] 5)).drew := ⟨_, rfl⟩
        have hT1 : (fun w' => Bx w' (w.heap.size + 1) 73 #[.string (strOfNums (sfx t q)), .int .i64 c, .int .i64 0] ∧ Bx w' (w.heap.size) 73 #[.string (ByteArray.mk #[]), .int .i64 0, .int .i64 0] ∧ Below w.heap.size w w') w3 := by rw [hw3]; exact hS1
        rw [← hw3] at Bc ⊢
        clear hw3 hS1 hS0
        have hcv := run_convert_bytes_arg (P := Try.prog) w3 136 5 Try.underlying136 Try.underlying5 wr.heap.size 0 1 1 [83] rfl (fun i9 hi9 => by have h9 : i9 = 0 := (by omega); subst h9; exact Bc.c 0 rfl) 9 Try.underlying9
        refine wpAnyX_one (i := 4) (o := _) rfl (by kernel_rfl) (fun K hK => ?_)
        go_simp
        refine hK.out _ _ (fun _ => hT1) (fun hS1 => ?_)
        clear hK K
        have hS1 := hS1 (by decide)
        try simp only [Act.put, List.setIfInBounds_toArray, List.set_cons_zero, List.set_cons_succ]
        clear hcv
        have hsz : ¬ (9223372036854775807 < (strOfNums [83]).size + (strOfNums (sfx t q)).size) := by rw [strOfNums_size, strOfNums_size, sfx_len]; simp only [List.length_cons, List.length_nil]; omega
        refine wpAnyX_take (i := 7) (oi := _) (v := ?_) rfl (by kernel_rfl) (by kernel_rfl) (by kernel_rfl) (by kernel_rfl) (fun _ _ _ h => h) (Or.inl ⟨by rfl, ?_⟩) hS1 ?_
        rotate_left 1
        · (intro W8 hSw;  go_simp; (try with_reducible rfl))
        change wpAnyX _ _ _ _ _ _ _ _ (Act.put _ (some 25) _) _
        try simp only [Act.put, List.setIfInBounds_toArray, List.set_cons_zero, List.set_cons_succ]
        refine wpAnyX_take (i := 8) (oi := _) (v := ?_) rfl (by kernel_rfl) (by kernel_rfl) (by kernel_rfl) (by kernel_rfl) (fun _ _ _ h => h) (Or.inl ⟨by rfl, ?_⟩) hS1 ?_
        rotate_left 1
        · (intro W8 hSw;  go_simp; (try with_reducible rfl))
        change wpAnyX _ _ _ _ _ _ _ _ (Act.put _ (some 26) _) _
        try simp only [Act.put, List.setIfInBounds_toArray, List.set_cons_zero, List.set_cons_succ]
        have k0 := hS1.1.c 0 rfl
        have kf := hS1.1.f
        have kl := hS1.1.lt
        refine wpAnyX_one (i := 9) (o := _) rfl (by kernel_rfl) (fun K hK => ?_)
        go_simp
        refine hK.out _ _ (fun h => absurd rfl h) (fun hS2 => ?_)
        clear hK K
        try simp only [Act.put, List.setIfInBounds_toArray, List.set_cons_zero, List.set_cons_succ]
        refine wpAnyX_done (by kernel_rfl) ?_ _
        have hN := HNEW.out
        have XF3 : Bx (w3.setCell ⟨w.heap.size + 1, 0, none⟩ (.string (strOfNums [83] ++ strOfNums (sfx t q)))) (w.heap.size + 1) 73 #[.string (strOfNums (sfx (t + 1) q)), .int .i64 c, .int .i64 0] := by rw [hN]; exact hS1.1.set rfl
        have XR3 : Bx (w3.setCell ⟨w.heap.size + 1, 0, none⟩ (.string (strOfNums [83] ++ strOfNums (sfx t q)))) (w.heap.size) 73 #[.string (ByteArray.mk #[]), .int .i64 0, .int .i64 0] := hS1.2.1.far (by omega)
        have hB3 : Below w.heap.size w (w3.setCell ⟨w.heap.size + 1, 0, none⟩ (.string (strOfNums [83] ++ strOfNums (sfx t q)))) := hS1.2.2.setCell (by show _ ≤ w.heap.size + 1; omega) _
        clear hN hS1 hS2 hT1 k0 kf kl
        generalize w3.setCell ⟨w.heap.size + 1, 0, none⟩ (.string (strOfNums [83] ++ strOfNums (sfx t q))) = w4 at XF3 XR3 hB3 ⊢
        replace XF := hid XF3
        replace XR := hid XR3
        clear XF3 XR3 hB
        go_wp2_with (fail)
        go_roundg m
        case measure => omega
        case rel => exact ⟨t + 1, i2, Q2, by omega, by omega, by first | rfl | rw [e6], by first | rfl | (congr 1; omega) | go_num, hQ2, by omega, XF, XR, hB3⟩

end Go.Proofs.Ytofclfgaekjonaa
