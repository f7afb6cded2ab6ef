/- Bif -/
import Derived.Test.YtofclfgaekjonaaZq25
namespace Go.Proofs.Ytofclfgaekjonaa
open Go.RowKit RM
set_option linter.unusedVariables false
set_option linter.unusedSimpArgs false
attribute [local irreducible] World.setCell

set_option maxRecDepth 100000 in
set_option maxHeartbeats 4000000 in
theorem pr3 {g0 h0 cp cp2 : Nat} {xs ys : List D5} {w : World} (hA : Rd w (some ⟨g0, 0, none⟩) xs) (hB : Rd w (some ⟨h0, 0, none⟩) ys) (hn : xs.length = 9) (hm : ys.length = 9) (hok : allB xs = true) (hok2 : allB ys = true) (hc1 : 9 ≤ cp) (hc2 : cp ≤ 1048576) (hc3 : 9 ≤ cp2) :
    Calls Try.prog 73 #[mv 3 3 (some ⟨g0, 0, none⟩) 9 cp, mv 3 3 (some ⟨h0, 0, none⟩) 9 cp2] w fun ee w' => IR w w' ee 3 3 9 (tab 9 (mmF 3 3 xs ys)) (anyB 9 (mmG 3 3 xs ys)) :=
  pr_i (ra := 3) (ca := 3) (cb := 3) (n := 9) (m := 9) (N := 9) hA hB hn hm hok hok2 (by decide) (by decide) (by decide) (by decide) (by decide) (by decide) (by decide) (by decide) (by decide) hc1 hc2 hc3 (by decide)
theorem S9.newbox {w : World} {g0 cp : Nat} {xs : List D5} {W : World} {cs : Array Value} {t : TypeId} (h : S9 w g0 cp xs (W.alloc (.cells cs t))) : Bx (W.alloc (.cells cs t)) W.heap.size t cs := Bx.new rfl
theorem S9.newboxd {w : World} {g0 cp : Nat} {xs : List D5} {W : World} {cs : Array Value} {t : TypeId} (h : S9 w g0 cp xs (W.alloc (.cells cs t)).drew) : Bx (W.alloc (.cells cs t)).drew W.heap.size t cs := Bx.new (W := W) rfl
theorem Bk.refold {W : World} {g : Nat} {t : TypeId} {xs : List D5} {o o' : Obj} (h : Bk (W.alloc o) g t xs) (hl : g < W.heap.size) : Bk (W.alloc o') g t xs :=
  (Below.heap_alloc W o' g hl).trans ((Below.heap_alloc W o g hl).symm.trans h)
theorem al_rd {w : World} {g0 cp : Nat} {xs ys : List D5} {A : Option Addr} {W : World} {o : Obj} (h : Rd W A ys) (hs : S9 w g0 cp xs (W.alloc o)) : Rd (W.alloc o) A ys := h.mono ((Below.refl _ _).alloc (Nat.le_refl _) _)
theorem al_bk {w : World} {g0 cp g : Nat} {xs ys : List D5} {t : TypeId} {W : World} {o : Obj} (h : Bk W g t ys) (hs : S9 w g0 cp xs (W.alloc o)) : Bk (W.alloc o) g t ys := h.alloc o
theorem S9.newlt {w : World} {g0 cp : Nat} {xs : List D5} {W : World} (h : S9 w g0 cp xs W) : w.heap.size < W.heap.size := h.2.1.lt
set_option maxRecDepth 100000 in
set_option maxHeartbeats 16000000 in
theorem iv_i9 {g0 cp : Nat} {xs : List D5} {w : World} (hA : Rd w (some ⟨g0, 0, none⟩) xs) (hn : xs.length = 9) (hgl : g0 < w.heap.size) (hcp : 9 ≤ cp) (hcp2 : cp ≤ 1048576) :
    Calls Try.prog 28 #[bv (some ⟨g0, 0, none⟩) 9 cp] w fun ee w' => ee = .returned (.bool (okBl 9 xs)) ∧ Below w.heap.size w w' := by
  have HA := hid hA
  have HN := hid hn
  clear hA hn
  go_enter Try.func28, Try.ntmps28
  go_wp2_with (fail)
  go_loopg [15] 9 (fun q s15 wr => ∃ j : Nat, j + q = 9 ∧ s15 = .int .i64 (j : Int) ∧ Hid (allR (xs.take j) = true) ∧ Hid (S9 w g0 cp xs wr))
  case atStart => exact ⟨0, by omega, rfl, rfl, ⟨HA.out.mono ((Below.refl _ _).alloc (Nat.le_refl _) _), Bx.new rfl, (Below.refl _ _).alloc (Nat.le_refl _) _⟩⟩
  case round =>
    obtain ⟨j, hj, rfl, HR, HS⟩ := hrel
    cases gk with
    | zero =>
      obtain rfl : j = 9 := by omega
      have HAR : Hid (allR xs = true) := hid (by have h := HR.out; rw [List.take_of_length_le (by rw [HN.out]; exact Nat.le_refl _)] at h; exact h)
      have HB : Hid (allB xs = true) := hid (allR_B HAR.out)
      clear HR
      have HO := hid (okBl_9 HAR.out)
      go_upto_region 9 with (fail)
      cases hany : anyB 9 (mmG 3 3 xs (tab 9 (tpF xs)))
      · have HANY := hid hany
        clear hany
        go_cut [5, 6] (fun s5 s6 wx => CutG (∃ b1 g : Nat, s5 = .pointer (some ⟨b1, 0, none⟩) ∧ s6 = .bool true ∧ Hid (Bx wx b1 30 #[.int .i64 3, .int .i64 3, .slice (some ⟨g, 0, none⟩) 9 9]) ∧ Hid (Bk wx g 99 (tab 9 (mmF 3 3 xs (tab 9 (tpF xs))))) ∧ w.heap.size < b1) (Hid (S9 w g0 cp xs wx)))
        case first =>
          refine wp_region_x (S9 w g0 cp xs) 1000 (by kernel_rfl) (S9.drew HS.out) (fun hS0 => ?_)
          refine wpAnyX_take (i := 0) (oi := _) (v := ?_) rfl (by kernel_rfl) (by kernel_rfl) (by kernel_rfl) (by kernel_rfl) (fun _ _ _ h => h) (Or.inl ⟨by rfl, ?_⟩) hS0 ?_
          rotate_left 1
          · (intro W8 hSw;  go_simp; (try with_reducible rfl))
          change wpAnyX _ _ _ _ _ _ _ _ (Act.put _ (some 29) _) _
          try simp only [Act.put, List.setIfInBounds_toArray, List.set_cons_zero, List.set_cons_succ]
          refine wpAnyX_take (i := 1) (oi := _) (v := ?_) rfl (by kernel_rfl) (by kernel_rfl) (by kernel_rfl) (by kernel_rfl) (fun _ _ _ h => h) (Or.inl ⟨by rfl, ?_⟩) hS0 ?_
          rotate_left 1
          · (intro W8 hSw; have e0 := hSw.2.1.c 0 rfl; go_simp; (try with_reducible rfl))
          change wpAnyX _ _ _ _ _ _ _ _ (Act.put _ (some 30) _) _
          try simp only [Act.put, List.setIfInBounds_toArray, List.set_cons_zero, List.set_cons_succ]
          refine wpAnyX_take (i := 3) (oi := _) (v := ?_) rfl (by kernel_rfl) (by kernel_rfl) (by kernel_rfl) (by kernel_rfl) (fun _ _ _ h => h) (Or.inl ⟨by rfl, ?_⟩) hS0 ?_
          rotate_left 1
          · (intro W8 hSw;  go_simp; (try with_reducible rfl))
          change wpAnyX _ _ _ _ _ _ _ _ (Act.put _ (some 32) _) _
          try simp only [Act.put, List.setIfInBounds_toArray, List.set_cons_zero, List.set_cons_succ]
          refine wpAnyX_take (i := 4) (oi := _) (v := ?_) rfl (by kernel_rfl) (by kernel_rfl) (by kernel_rfl) (by kernel_rfl) (fun _ _ _ h => h) (Or.inl ⟨by rfl, ?_⟩) hS0 ?_
          rotate_left 1
          · (intro W8 hSw; have e0 := hSw.2.1.c 0 rfl; go_simp; (try with_reducible rfl))
          change wpAnyX _ _ _ _ _ _ _ _ (Act.put _ (some 33) _) _
          try simp only [Act.put, List.setIfInBounds_toArray, List.set_cons_zero, List.set_cons_succ]
          refine wpAnyX_two (i := 2) (j := 11) (oi := _) (oj := _) rfl rfl (by kernel_rfl) (fun K hK => ?_) (fun K hK => ?_)
          · go_simp
            refine (cmx_i _).mono ?_
            rintro ee v ⟨rfl, hv⟩
            refine hK.out _ _ (fun _ => hS0.mono hv) (fun hS1 => ?_)
            clear hK K
            have hS1 := hS1 (by decide)
            clear hv
            try simp only [Act.put, List.setIfInBounds_toArray, List.set_cons_zero, List.set_cons_succ]
            refine wpAnyX_two (i := 5) (j := 11) (oi := _) (oj := _) rfl rfl (by kernel_rfl) (fun K hK => ?_) (fun K hK => ?_)
            · go_simp
              refine (tr_i (hS1.1) HN.out).mono ?_
              rintro ee v ⟨tv, rfl, hT, hv⟩
              obtain ⟨h0, cp2, rfl, hTR, hT1, hT2, hT3⟩ := hT.form9 (tab_len _ _)
              refine hK.out _ _ (fun _ => hS1.mono hv) (fun hS2 => ?_)
              clear hK K
              have hS2 := hS2 (by decide)
              have HT := hid hTR
              clear hT hTR
              clear hv
              try simp only [Act.put, List.setIfInBounds_toArray, List.set_cons_zero, List.set_cons_succ]
              refine wpAnyX_two (i := 6) (j := 11) (oi := _) (oj := _) rfl rfl (by kernel_rfl) (fun K hK => ?_) (fun K hK => ?_)
              · go_simp
                refine (cmx_i _).mono ?_
                rintro ee v ⟨rfl, hv⟩
                refine hK.out _ _ (fun _ => hS2.mono hv) (fun hS3 => ?_)
                clear hK K
                have hS3 := hS3 (by decide)
                replace HT := hid (HT.out.mono hv)
                clear hv
                try simp only [Act.put, List.setIfInBounds_toArray, List.set_cons_zero, List.set_cons_succ]
                refine wpAnyX_two (i := 7) (j := 11) (oi := _) (oj := _) rfl rfl (by kernel_rfl) (fun K hK => ?_) (fun K hK => ?_)
                · go_simp
                  (try have hPl := HP.out.lt)
                  refine (pr3 (hS3.1) HT.out HN.out (tab_len _ _) HB.out (tpF_ok HN.out HB.out) hcp hcp2 hT3).mono ?_
                  rintro ee v ⟨hbad, hgood, hv⟩
                  obtain ⟨g, rfl, hG, hgs⟩ := hgood HANY.out
                  clear hbad hgood
                  refine hK.out _ _ (fun _ => hS3.mono hv) (fun hS4 => ?_)
                  clear hK K
                  have hS4 := hS4 (by decide)
                  replace HT := hid (HT.out.mono hv)
                  have HG := hid hG
                  clear hG
                  clear hv
                  try simp only [Act.put, List.setIfInBounds_toArray, List.set_cons_zero, List.set_cons_succ]
                  refine wpAnyX_take (i := 8) (oi := _) (v := ?_) rfl (by kernel_rfl) (by kernel_rfl) (by kernel_rfl) (by kernel_rfl) (fun _ _ _ h => h) (Or.inl ⟨by rfl, ?_⟩) hS4 ?_
                  rotate_left 1
                  · (intro W8 hSw;  go_simp; (try with_reducible rfl))
                  change wpAnyX _ _ _ _ _ _ _ _ (Act.put _ (some 28) _) _
                  try simp only [Act.put, List.setIfInBounds_toArray, List.set_cons_zero, List.set_cons_succ]
                  refine wpAnyX_take (i := 9) (oi := _) (v := ?_) rfl (by kernel_rfl) (by kernel_rfl) (by kernel_rfl) (by kernel_rfl) (fun _ _ _ h => h) (Or.inl ⟨by rfl, ?_⟩) hS4 ?_
                  rotate_left 1
                  · (intro W8 hSw;  go_simp; (try with_reducible rfl))
                  change wpAnyX _ _ _ _ _ _ _ _ (Act.put _ (some 37) _) _
                  try simp only [Act.put, List.setIfInBounds_toArray, List.set_cons_zero, List.set_cons_succ]
                  refine wpAnyX_take (i := 10) (oi := _) (v := ?_) rfl (by kernel_rfl) (by kernel_rfl) (by kernel_rfl) (by kernel_rfl) (fun _ _ _ h => h) (Or.inl ⟨by rfl, ?_⟩) hS4 ?_
                  rotate_left 1
                  · (intro W8 hSw;  go_simp; (try with_reducible rfl))
                  change wpAnyX _ _ _ _ _ _ _ _ (Act.put _ (some 38) _) _
                  try simp only [Act.put, List.setIfInBounds_toArray, List.set_cons_zero, List.set_cons_succ]
                  refine wpAnyX_one (i := 11) (o := _) rfl (by kernel_rfl) (fun K hK => ?_)
                  go_simp
                  refine hK.out _ _ (fun _ => hS4.alloc _) (fun hS5 => ?_)
                  clear hK K
                  have hS5 := hS5 (by decide)
                  (try have hGl := HG.out.lt)
                  replace HT := hid (al_rd HT.out hS5)
                  replace HG := hid (al_bk HG.out hS5)
                  have hP1 := S9.newlt hS4
                  have HP := hid (by first | exact S9.newbox hS5 | exact S9.newboxd hS5)
                  try simp only [Act.put, List.setIfInBounds_toArray, List.set_cons_zero, List.set_cons_succ]
                  have k0 := HP.out.c 0 rfl
                  have k1 := HP.out.c 1 rfl
                  have k2 := HP.out.c 2 rfl
                  have kf := HP.out.f
                  have kl := HP.out.lt
                  refine wpAnyX_one (i := 12) (o := _) rfl (by kernel_rfl) (fun K hK => ?_)
                  go_simp
                  refine hK.out _ _ (fun _ => by first | exact ((hS5.set hP1 hgl).set hP1 hgl).set hP1 hgl | exact hS4.alloc _) (fun hS6 => ?_)
                  clear hK K
                  have hS6 := hS6 (by decide)
                  try simp only [Act.put, List.setIfInBounds_toArray, List.set_cons_zero, List.set_cons_succ]
                  refine wpAnyX_one (i := 13) (o := _) rfl (by kernel_rfl) (fun K hK => ?_)
                  go_simp
                  refine hK.out _ _ (fun _ => hS6) (fun hS7 => ?_)
                  clear hK K
                  have hS7 := hS7 (by decide)
                  try simp only [Act.put, List.setIfInBounds_toArray, List.set_cons_zero, List.set_cons_succ]
                  refine wpAnyX_done (by kernel_rfl) ?_ _
                  go_wp2_with (fail)
                  go_meet
                  first | exact ⟨⟨_, g, rfl, rfl, hid (Bx.new rfl), hid (Bk.refold HG.out hGl), hP1⟩, hid hS7⟩ | exact ⟨⟨_, g, rfl, rfl, hid (((HP.out.set (i := 0) rfl).set (i := 1) rfl).set (i := 2) rfl), hid (((HG.out.far (by first | (dsimp only; omega) | omega) _).far (by first | (dsimp only; omega) | omega) _).far (by first | (dsimp only; omega) | omega) _), hP1⟩, hid hS7⟩
                · go_simp
                  refine hK.out _ _ (fun _ => hS3.alloc _) (fun hS4 => ?_)
                  clear hK K
                  have hS4 := hS4 (by decide)
                  (try have hGl := HG.out.lt)
                  replace HT := hid (al_rd HT.out hS4)
                  have hP1 := S9.newlt hS3
                  have HP := hid (by first | exact S9.newbox hS4 | exact S9.newboxd hS4)
                  try simp only [Act.put, List.setIfInBounds_toArray, List.set_cons_zero, List.set_cons_succ]
                  refine wpAnyX_one (i := 7) (o := _) rfl (by kernel_rfl) (fun K hK => ?_)
                  go_simp
                  (try have hPl := HP.out.lt)
                  refine (pr3 (hS4.1) HT.out HN.out (tab_len _ _) HB.out (tpF_ok HN.out HB.out) hcp hcp2 hT3).mono ?_
                  rintro ee v ⟨hbad, hgood, hv⟩
                  obtain ⟨g, rfl, hG, hgs⟩ := hgood HANY.out
                  clear hbad hgood
                  refine hK.out _ _ (fun _ => hS4.mono hv) (fun hS5 => ?_)
                  clear hK K
                  have hS5 := hS5 (by decide)
                  replace HT := hid (HT.out.mono hv)
                  replace HP := hid (HP.out.mono hv)
                  have HG := hid hG
                  clear hG
                  clear hv
                  try simp only [Act.put, List.setIfInBounds_toArray, List.set_cons_zero, List.set_cons_succ]
                  refine wpAnyX_take (i := 8) (oi := _) (v := ?_) rfl (by kernel_rfl) (by kernel_rfl) (by kernel_rfl) (by kernel_rfl) (fun _ _ _ h => h) (Or.inl ⟨by rfl, ?_⟩) hS5 ?_
                  rotate_left 1
                  · (intro W8 hSw;  go_simp; (try with_reducible rfl))
                  change wpAnyX _ _ _ _ _ _ _ _ (Act.put _ (some 28) _) _
                  try simp only [Act.put, List.setIfInBounds_toArray, List.set_cons_zero, List.set_cons_succ]
                  refine wpAnyX_take (i := 9) (oi := _) (v := ?_) rfl (by kernel_rfl) (by kernel_rfl) (by kernel_rfl) (by kernel_rfl) (fun _ _ _ h => h) (Or.inl ⟨by rfl, ?_⟩) hS5 ?_
                  rotate_left 1
                  · (intro W8 hSw;  go_simp; (try with_reducible rfl))
                  change wpAnyX _ _ _ _ _ _ _ _ (Act.put _ (some 37) _) _
                  try simp only [Act.put, List.setIfInBounds_toArray, List.set_cons_zero, List.set_cons_succ]
                  refine wpAnyX_take (i := 10) (oi := _) (v := ?_) rfl (by kernel_rfl) (by kernel_rfl) (by kernel_rfl) (by kernel_rfl) (fun _ _ _ h => h) (Or.inl ⟨by rfl, ?_⟩) hS5 ?_
                  rotate_left 1
                  · (intro W8 hSw;  go_simp; (try with_reducible rfl))
                  change wpAnyX _ _ _ _ _ _ _ _ (Act.put _ (some 38) _) _
                  try simp only [Act.put, List.setIfInBounds_toArray, List.set_cons_zero, List.set_cons_succ]
                  have k0 := HP.out.c 0 rfl
                  have k1 := HP.out.c 1 rfl
                  have k2 := HP.out.c 2 rfl
                  have kf := HP.out.f
                  have kl := HP.out.lt
                  refine wpAnyX_one (i := 12) (o := _) rfl (by kernel_rfl) (fun K hK => ?_)
                  go_simp
                  refine hK.out _ _ (fun _ => by first | exact ((hS5.set hP1 hgl).set hP1 hgl).set hP1 hgl | exact hS4.alloc _) (fun hS6 => ?_)
                  clear hK K
                  have hS6 := hS6 (by decide)
                  try simp only [Act.put, List.setIfInBounds_toArray, List.set_cons_zero, List.set_cons_succ]
                  refine wpAnyX_one (i := 13) (o := _) rfl (by kernel_rfl) (fun K hK => ?_)
                  go_simp
                  refine hK.out _ _ (fun _ => hS6) (fun hS7 => ?_)
                  clear hK K
                  have hS7 := hS7 (by decide)
                  try simp only [Act.put, List.setIfInBounds_toArray, List.set_cons_zero, List.set_cons_succ]
                  refine wpAnyX_done (by kernel_rfl) ?_ _
                  go_wp2_with (fail)
                  go_meet
                  first | exact ⟨⟨_, g, rfl, rfl, hid (Bx.new rfl), hid (Bk.refold HG.out hGl), hP1⟩, hid hS7⟩ | exact ⟨⟨_, g, rfl, rfl, hid (((HP.out.set (i := 0) rfl).set (i := 1) rfl).set (i := 2) rfl), hid (((HG.out.far (by first | (dsimp only; omega) | omega) _).far (by first | (dsimp only; omega) | omega) _).far (by first | (dsimp only; omega) | omega) _), hP1⟩, hid hS7⟩
              · go_simp
                refine hK.out _ _ (fun _ => hS2.alloc _) (fun hS3 => ?_)
                clear hK K
                have hS3 := hS3 (by decide)
                (try have hGl := HG.out.lt)
                replace HT := hid (al_rd HT.out hS3)
                have hP1 := S9.newlt hS2
                have HP := hid (by first | exact S9.newbox hS3 | exact S9.newboxd hS3)
                try simp only [Act.put, List.setIfInBounds_toArray, List.set_cons_zero, List.set_cons_succ]
                refine wpAnyX_one (i := 6) (o := _) rfl (by kernel_rfl) (fun K hK => ?_)
                go_simp
                refine (cmx_i _).mono ?_
                rintro ee v ⟨rfl, hv⟩
                refine hK.out _ _ (fun _ => hS3.mono hv) (fun hS4 => ?_)
                clear hK K
                have hS4 := hS4 (by decide)
                replace HT := hid (HT.out.mono hv)
                replace HP := hid (HP.out.mono hv)
                clear hv
                try simp only [Act.put, List.setIfInBounds_toArray, List.set_cons_zero, List.set_cons_succ]
                refine wpAnyX_one (i := 7) (o := _) rfl (by kernel_rfl) (fun K hK => ?_)
                go_simp
                (try have hPl := HP.out.lt)
                refine (pr3 (hS4.1) HT.out HN.out (tab_len _ _) HB.out (tpF_ok HN.out HB.out) hcp hcp2 hT3).mono ?_
                rintro ee v ⟨hbad, hgood, hv⟩
                obtain ⟨g, rfl, hG, hgs⟩ := hgood HANY.out
                clear hbad hgood
                refine hK.out _ _ (fun _ => hS4.mono hv) (fun hS5 => ?_)
                clear hK K
                have hS5 := hS5 (by decide)
                replace HT := hid (HT.out.mono hv)
                replace HP := hid (HP.out.mono hv)
                have HG := hid hG
                clear hG
                clear hv
                try simp only [Act.put, List.setIfInBounds_toArray, List.set_cons_zero, List.set_cons_succ]
                refine wpAnyX_take (i := 8) (oi := _) (v := ?_) rfl (by kernel_rfl) (by kernel_rfl) (by kernel_rfl) (by kernel_rfl) (fun _ _ _ h => h) (Or.inl ⟨by rfl, ?_⟩) hS5 ?_
                rotate_left 1
                · (intro W8 hSw;  go_simp; (try with_reducible rfl))
                change wpAnyX _ _ _ _ _ _ _ _ (Act.put _ (some 28) _) _
                try simp only [Act.put, List.setIfInBounds_toArray, List.set_cons_zero, List.set_cons_succ]
                refine wpAnyX_take (i := 9) (oi := _) (v := ?_) rfl (by kernel_rfl) (by kernel_rfl) (by kernel_rfl) (by kernel_rfl) (fun _ _ _ h => h) (Or.inl ⟨by rfl, ?_⟩) hS5 ?_
                rotate_left 1
                · (intro W8 hSw;  go_simp; (try with_reducible rfl))
                change wpAnyX _ _ _ _ _ _ _ _ (Act.put _ (some 37) _) _
                try simp only [Act.put, List.setIfInBounds_toArray, List.set_cons_zero, List.set_cons_succ]
                refine wpAnyX_take (i := 10) (oi := _) (v := ?_) rfl (by kernel_rfl) (by kernel_rfl) (by kernel_rfl) (by kernel_rfl) (fun _ _ _ h => h) (Or.inl ⟨by rfl, ?_⟩) hS5 ?_
                rotate_left 1
                · (intro W8 hSw;  go_simp; (try with_reducible rfl))
                change wpAnyX _ _ _ _ _ _ _ _ (Act.put _ (some 38) _) _
                try simp only [Act.put, List.setIfInBounds_toArray, List.set_cons_zero, List.set_cons_succ]
                have k0 := HP.out.c 0 rfl
                have k1 := HP.out.c 1 rfl
                have k2 := HP.out.c 2 rfl
                have kf := HP.out.f
                have kl := HP.out.lt
                refine wpAnyX_one (i := 12) (o := _) rfl (by kernel_rfl) (fun K hK => ?_)
                go_simp
                refine hK.out _ _ (fun _ => by first | exact ((hS5.set hP1 hgl).set hP1 hgl).set hP1 hgl | exact hS4.alloc _) (fun hS6 => ?_)
                clear hK K
                have hS6 := hS6 (by decide)
                try simp only [Act.put, List.setIfInBounds_toArray, List.set_cons_zero, List.set_cons_succ]
                refine wpAnyX_one (i := 13) (o := _) rfl (by kernel_rfl) (fun K hK => ?_)
                go_simp
                refine hK.out _ _ (fun _ => hS6) (fun hS7 => ?_)
                clear hK K
                have hS7 := hS7 (by decide)
                try simp only [Act.put, List.setIfInBounds_toArray, List.set_cons_zero, List.set_cons_succ]
                refine wpAnyX_done (by kernel_rfl) ?_ _
                go_wp2_with (fail)
                go_meet
                first | exact ⟨⟨_, g, rfl, rfl, hid (Bx.new rfl), hid (Bk.refold HG.out hGl), hP1⟩, hid hS7⟩ | exact ⟨⟨_, g, rfl, rfl, hid (((HP.out.set (i := 0) rfl).set (i := 1) rfl).set (i := 2) rfl), hid (((HG.out.far (by first | (dsimp only; omega) | omega) _).far (by first | (dsimp only; omega) | omega) _).far (by first | (dsimp only; omega) | omega) _), hP1⟩, hid hS7⟩
            · go_simp
              refine hK.out _ _ (fun _ => hS1.alloc _) (fun hS2 => ?_)
              clear hK K
              have hS2 := hS2 (by decide)
              (try have hGl := HG.out.lt)
              have hP1 := S9.newlt hS1
              have HP := hid (by first | exact S9.newbox hS2 | exact S9.newboxd hS2)
              try simp only [Act.put, List.setIfInBounds_toArray, List.set_cons_zero, List.set_cons_succ]
              refine wpAnyX_one (i := 5) (o := _) rfl (by kernel_rfl) (fun K hK => ?_)
              go_simp
              refine (tr_i (hS2.1) HN.out).mono ?_
              rintro ee v ⟨tv, rfl, hT, hv⟩
              obtain ⟨h0, cp2, rfl, hTR, hT1, hT2, hT3⟩ := hT.form9 (tab_len _ _)
              refine hK.out _ _ (fun _ => hS2.mono hv) (fun hS3 => ?_)
              clear hK K
              have hS3 := hS3 (by decide)
              replace HP := hid (HP.out.mono hv)
              have HT := hid hTR
              clear hT hTR
              clear hv
              try simp only [Act.put, List.setIfInBounds_toArray, List.set_cons_zero, List.set_cons_succ]
              refine wpAnyX_one (i := 6) (o := _) rfl (by kernel_rfl) (fun K hK => ?_)
              go_simp
              refine (cmx_i _).mono ?_
              rintro ee v ⟨rfl, hv⟩
              refine hK.out _ _ (fun _ => hS3.mono hv) (fun hS4 => ?_)
              clear hK K
              have hS4 := hS4 (by decide)
              replace HP := hid (HP.out.mono hv)
              replace HT := hid (HT.out.mono hv)
              clear hv
              try simp only [Act.put, List.setIfInBounds_toArray, List.set_cons_zero, List.set_cons_succ]
              refine wpAnyX_one (i := 7) (o := _) rfl (by kernel_rfl) (fun K hK => ?_)
              go_simp
              (try have hPl := HP.out.lt)
              refine (pr3 (hS4.1) HT.out HN.out (tab_len _ _) HB.out (tpF_ok HN.out HB.out) hcp hcp2 hT3).mono ?_
              rintro ee v ⟨hbad, hgood, hv⟩
              obtain ⟨g, rfl, hG, hgs⟩ := hgood HANY.out
              clear hbad hgood
              refine hK.out _ _ (fun _ => hS4.mono hv) (fun hS5 => ?_)
              clear hK K
              have hS5 := hS5 (by decide)
              replace HP := hid (HP.out.mono hv)
              replace HT := hid (HT.out.mono hv)
              have HG := hid hG
              clear hG
              clear hv
              try simp only [Act.put, List.setIfInBounds_toArray, List.set_cons_zero, List.set_cons_succ]
              refine wpAnyX_take (i := 8) (oi := _) (v := ?_) rfl (by kernel_rfl) (by kernel_rfl) (by kernel_rfl) (by kernel_rfl) (fun _ _ _ h => h) (Or.inl ⟨by rfl, ?_⟩) hS5 ?_
              rotate_left 1
              · (intro W8 hSw;  go_simp; (try with_reducible rfl))
              change wpAnyX _ _ _ _ _ _ _ _ (Act.put _ (some 28) _) _
              try simp only [Act.put, List.setIfInBounds_toArray, List.set_cons_zero, List.set_cons_succ]
              refine wpAnyX_take (i := 9) (oi := _) (v := ?_) rfl (by kernel_rfl) (by kernel_rfl) (by kernel_rfl) (by kernel_rfl) (fun _ _ _ h => h) (Or.inl ⟨by rfl, ?_⟩) hS5 ?_
              rotate_left 1
              · (intro W8 hSw;  go_simp; (try with_reducible rfl))
              change wpAnyX _ _ _ _ _ _ _ _ (Act.put _ (some 37) _) _
              try simp only [Act.put, List.setIfInBounds_toArray, List.set_cons_zero, List.set_cons_succ]
              refine wpAnyX_take (i := 10) (oi := _) (v := ?_) rfl (by kernel_rfl) (by kernel_rfl) (by kernel_rfl) (by kernel_rfl) (fun _ _ _ h => h) (Or.inl ⟨by rfl, ?_⟩) hS5 ?_
              rotate_left 1
              · (intro W8 hSw;  go_simp; (try with_reducible rfl))
              change wpAnyX _ _ _ _ _ _ _ _ (Act.put _ (some 38) _) _
              try simp only [Act.put, List.setIfInBounds_toArray, List.set_cons_zero, List.set_cons_succ]
              have k0 := HP.out.c 0 rfl
              have k1 := HP.out.c 1 rfl
              have k2 := HP.out.c 2 rfl
              have kf := HP.out.f
              have kl := HP.out.lt
              refine wpAnyX_one (i := 12) (o := _) rfl (by kernel_rfl) (fun K hK => ?_)
              go_simp
              refine hK.out _ _ (fun _ => by first | exact ((hS5.set hP1 hgl).set hP1 hgl).set hP1 hgl | exact hS4.alloc _) (fun hS6 => ?_)
              clear hK K
              have hS6 := hS6 (by decide)
              try simp only [Act.put, List.setIfInBounds_toArray, List.set_cons_zero, List.set_cons_succ]
              refine wpAnyX_one (i := 13) (o := _) rfl (by kernel_rfl) (fun K hK => ?_)
              go_simp
              refine hK.out _ _ (fun _ => hS6) (fun hS7 => ?_)
              clear hK K
              have hS7 := hS7 (by decide)
              try simp only [Act.put, List.setIfInBounds_toArray, List.set_cons_zero, List.set_cons_succ]
              refine wpAnyX_done (by kernel_rfl) ?_ _
              go_wp2_with (fail)
              go_meet
              first | exact ⟨⟨_, g, rfl, rfl, hid (Bx.new rfl), hid (Bk.refold HG.out hGl), hP1⟩, hid hS7⟩ | exact ⟨⟨_, g, rfl, rfl, hid (((HP.out.set (i := 0) rfl).set (i := 1) rfl).set (i := 2) rfl), hid (((HG.out.far (by first | (dsimp only; omega) | omega) _).far (by first | (dsimp only; omega) | omega) _).far (by first | (dsimp only; omega) | omega) _), hP1⟩, hid hS7⟩
          · go_simp
            refine hK.out _ _ (fun _ => hS0.alloc _) (fun hS1 => ?_)
            clear hK K
            have hS1 := hS1 (by decide)
            (try have hGl := HG.out.lt)
            have hP1 := S9.newlt hS0
            have HP := hid (by first | exact S9.newbox hS1 | exact S9.newboxd hS1)
            try simp only [Act.put, List.setIfInBounds_toArray, List.set_cons_zero, List.set_cons_succ]
            refine wpAnyX_one (i := 2) (o := _) rfl (by kernel_rfl) (fun K hK => ?_)
            go_simp
            refine (cmx_i _).mono ?_
            rintro ee v ⟨rfl, hv⟩
            refine hK.out _ _ (fun _ => hS1.mono hv) (fun hS2 => ?_)
            clear hK K
            have hS2 := hS2 (by decide)
            replace HP := hid (HP.out.mono hv)
            clear hv
            try simp only [Act.put, List.setIfInBounds_toArray, List.set_cons_zero, List.set_cons_succ]
            refine wpAnyX_one (i := 5) (o := _) rfl (by kernel_rfl) (fun K hK => ?_)
            go_simp
            refine (tr_i (hS2.1) HN.out).mono ?_
            rintro ee v ⟨tv, rfl, hT, hv⟩
            obtain ⟨h0, cp2, rfl, hTR, hT1, hT2, hT3⟩ := hT.form9 (tab_len _ _)
            refine hK.out _ _ (fun _ => hS2.mono hv) (fun hS3 => ?_)
            clear hK K
            have hS3 := hS3 (by decide)
            replace HP := hid (HP.out.mono hv)
            have HT := hid hTR
            clear hT hTR
            clear hv
            try simp only [Act.put, List.setIfInBounds_toArray, List.set_cons_zero, List.set_cons_succ]
            refine wpAnyX_one (i := 6) (o := _) rfl (by kernel_rfl) (fun K hK => ?_)
            go_simp
            refine (cmx_i _).mono ?_
            rintro ee v ⟨rfl, hv⟩
            refine hK.out _ _ (fun _ => hS3.mono hv) (fun hS4 => ?_)
            clear hK K
            have hS4 := hS4 (by decide)
            replace HP := hid (HP.out.mono hv)
            replace HT := hid (HT.out.mono hv)
            clear hv
            try simp only [Act.put, List.setIfInBounds_toArray, List.set_cons_zero, List.set_cons_succ]
            refine wpAnyX_one (i := 7) (o := _) rfl (by kernel_rfl) (fun K hK => ?_)
            go_simp
            (try have hPl := HP.out.lt)
            refine (pr3 (hS4.1) HT.out HN.out (tab_len _ _) HB.out (tpF_ok HN.out HB.out) hcp hcp2 hT3).mono ?_
            rintro ee v ⟨hbad, hgood, hv⟩
            obtain ⟨g, rfl, hG, hgs⟩ := hgood HANY.out
            clear hbad hgood
            refine hK.out _ _ (fun _ => hS4.mono hv) (fun hS5 => ?_)
            clear hK K
            have hS5 := hS5 (by decide)
            replace HP := hid (HP.out.mono hv)
            replace HT := hid (HT.out.mono hv)
            have HG := hid hG
            clear hG
            clear hv
            try simp only [Act.put, List.setIfInBounds_toArray, List.set_cons_zero, List.set_cons_succ]
            refine wpAnyX_take (i := 8) (oi := _) (v := ?_) rfl (by kernel_rfl) (by kernel_rfl) (by kernel_rfl) (by kernel_rfl) (fun _ _ _ h => h) (Or.inl ⟨by rfl, ?_⟩) hS5 ?_
            rotate_left 1
            · (intro W8 hSw;  go_simp; (try with_reducible rfl))
            change wpAnyX _ _ _ _ _ _ _ _ (Act.put _ (some 28) _) _
            try simp only [Act.put, List.setIfInBounds_toArray, List.set_cons_zero, List.set_cons_succ]
            refine wpAnyX_take (i := 9) (oi := _) (v := ?_) rfl (by kernel_rfl) (by kernel_rfl) (by kernel_rfl) (by kernel_rfl) (fun _ _ _ h => h) (Or.inl ⟨by rfl, ?_⟩) hS5 ?_
            rotate_left 1
            · (intro W8 hSw;  go_simp; (try with_reducible rfl))
            change wpAnyX _ _ _ _ _ _ _ _ (Act.put _ (some 37) _) _
            try simp only [Act.put, List.setIfInBounds_toArray, List.set_cons_zero, List.set_cons_succ]
            refine wpAnyX_take (i := 10) (oi := _) (v := ?_) rfl (by kernel_rfl) (by kernel_rfl) (by kernel_rfl) (by kernel_rfl) (fun _ _ _ h => h) (Or.inl ⟨by rfl, ?_⟩) hS5 ?_
            rotate_left 1
            · (intro W8 hSw;  go_simp; (try with_reducible rfl))
            change wpAnyX _ _ _ _ _ _ _ _ (Act.put _ (some 38) _) _
            try simp only [Act.put, List.setIfInBounds_toArray, List.set_cons_zero, List.set_cons_succ]
            have k0 := HP.out.c 0 rfl
            have k1 := HP.out.c 1 rfl
            have k2 := HP.out.c 2 rfl
            have kf := HP.out.f
            have kl := HP.out.lt
            refine wpAnyX_one (i := 12) (o := _) rfl (by kernel_rfl) (fun K hK => ?_)
            go_simp
            refine hK.out _ _ (fun _ => by first | exact ((hS5.set hP1 hgl).set hP1 hgl).set hP1 hgl | exact hS4.alloc _) (fun hS6 => ?_)
            clear hK K
            have hS6 := hS6 (by decide)
            try simp only [Act.put, List.setIfInBounds_toArray, List.set_cons_zero, List.set_cons_succ]
            refine wpAnyX_one (i := 13) (o := _) rfl (by kernel_rfl) (fun K hK => ?_)
            go_simp
            refine hK.out _ _ (fun _ => hS6) (fun hS7 => ?_)
            clear hK K
            have hS7 := hS7 (by decide)
            try simp only [Act.put, List.setIfInBounds_toArray, List.set_cons_zero, List.set_cons_succ]
            refine wpAnyX_done (by kernel_rfl) ?_ _
            go_wp2_with (fail)
            go_meet
            first | exact ⟨⟨_, g, rfl, rfl, hid (Bx.new rfl), hid (Bk.refold HG.out hGl), hP1⟩, hid hS7⟩ | exact ⟨⟨_, g, rfl, rfl, hid (((HP.out.set (i := 0) rfl).set (i := 1) rfl).set (i := 2) rfl), hid (((HG.out.far (by first | (dsimp only; omega) | omega) _).far (by first | (dsimp only; omega) | omega) _).far (by first | (dsimp only; omega) | omega) _), hP1⟩, hid hS7⟩
        case rest =>
          obtain ⟨w8, rfl⟩ : ∃ w8, w8 = wc := ⟨_, rfl⟩
          obtain ⟨⟨b1, g, rfl, rfl, HP, HG, hb1⟩, HS⟩ := hcut
          have HV0 := hid HO.out
          rw [HANY.out] at HV0
          cases heq : eqL (tab 9 (mmF 3 3 xs (tab 9 (tpF xs)))) (tab 9 (unitP 3 3))
          · rw [heq] at HV0
            have HE := hid heq
            clear heq
            go_upto_region 10 with (fail)
            refine wp_region_x (fun w' => S9 w g0 cp xs w' ∧ Bx w' b1 30 #[.int .i64 3, .int .i64 3, .slice (some ⟨g, 0, none⟩) 9 9] ∧ Bk w' g 99 (tab 9 (mmF 3 3 xs (tab 9 (tpF xs))))) 1000 (by kernel_rfl) ⟨S9.drew HS.out, HP.out, HG.out⟩ (fun hS0 => ?_)
            refine wpAnyX_take (i := 0) (oi := _) (v := ?_) rfl (by kernel_rfl) (by kernel_rfl) (by kernel_rfl) (by kernel_rfl) (fun _ _ _ h => h) (Or.inl ⟨by rfl, ?_⟩) hS0 ?_
            rotate_left 1
            · (intro W8 hSw;  go_simp; (try with_reducible rfl))
            change wpAnyX _ _ _ _ _ _ _ _ (Act.put _ (some 39) _) _
            try simp only [Act.put, List.setIfInBounds_toArray, List.set_cons_zero, List.set_cons_succ]
            refine wpAnyX_take (i := 1) (oi := _) (v := ?_) rfl (by kernel_rfl) (by kernel_rfl) (by kernel_rfl) (by kernel_rfl) (fun _ _ _ h => h) (Or.inl ⟨by rfl, ?_⟩) hS0 ?_
            rotate_left 1
            · (intro W8 hSw;  go_simp; (try with_reducible rfl))
            change wpAnyX _ _ _ _ _ _ _ _ (Act.put _ (some 40) _) _
            try simp only [Act.put, List.setIfInBounds_toArray, List.set_cons_zero, List.set_cons_succ]
            refine wpAnyX_take (i := 2) (oi := _) (v := ?_) rfl (by kernel_rfl) (by kernel_rfl) (by kernel_rfl) (by kernel_rfl) (fun _ _ _ h => h) (Or.inl ⟨by rfl, ?_⟩) hS0 ?_
            rotate_left 1
            · (intro W8 hSw;  go_simp; (try with_reducible rfl))
            change wpAnyX _ _ _ _ _ _ _ _ (Act.put _ (some 41) _) _
            try simp only [Act.put, List.setIfInBounds_toArray, List.set_cons_zero, List.set_cons_succ]
            refine wpAnyX_take (i := 3) (oi := _) (v := ?_) rfl (by kernel_rfl) (by kernel_rfl) (by kernel_rfl) (by kernel_rfl) (fun _ _ _ h => h) (Or.inl ⟨by rfl, ?_⟩) hS0 ?_
            rotate_left 1
            · (intro W8 hSw;  go_simp; (try with_reducible rfl))
            change wpAnyX _ _ _ _ _ _ _ _ (Act.put _ (some 42) _) _
            try simp only [Act.put, List.setIfInBounds_toArray, List.set_cons_zero, List.set_cons_succ]
            refine wpAnyX_take (i := 4) (oi := _) (v := ?_) rfl (by kernel_rfl) (by kernel_rfl) (by kernel_rfl) (by kernel_rfl) (fun _ _ _ h => h) (Or.inl ⟨by rfl, ?_⟩) hS0 ?_
            rotate_left 1
            · (intro W8 hSw; have e0 := hSw.2.1.c 2 rfl; go_simp; (try with_reducible rfl))
            change wpAnyX _ _ _ _ _ _ _ _ (Act.put _ (some 43) _) _
            try simp only [Act.put, List.setIfInBounds_toArray, List.set_cons_zero, List.set_cons_succ]
            refine wpAnyX_one (i := 5) (o := _) rfl (by kernel_rfl) (fun K hK => ?_)
            go_simp
            refine (nr_i _).mono ?_
            rintro ee v ⟨rfl, hv⟩
            refine hK.out _ _ (fun _ => ⟨hS0.1.mono hv, hS0.2.1.mono hv, hS0.2.2.mono hv⟩) (fun hS1 => ?_)
            clear hK K
            have hS1 := hS1 (by decide)
            try simp only [Act.put, List.setIfInBounds_toArray, List.set_cons_zero, List.set_cons_succ]
            clear hv
            refine wpAnyX_one (i := 6) (o := _) rfl (by kernel_rfl) (fun K hK => ?_)
            go_simp
            refine (rc_i).mono ?_
            rintro ee v2 ⟨tv, rfl, hT, hv⟩
            obtain ⟨h0, cp2, rfl, hTR, hT1, hT2, hT3⟩ := hT.form9 (tab_len _ _)
            refine hK.out _ _ (fun _ => ⟨hS1.1.mono hv, hS1.2.1.mono hv, hS1.2.2.mono hv⟩) (fun hS2 => ?_)
            clear hK K
            have hS2 := hS2 (by decide)
            try simp only [Act.put, List.setIfInBounds_toArray, List.set_cons_zero, List.set_cons_succ]
            have HT := hid hTR
            clear hT hTR hv
            refine wpAnyX_one (i := 7) (o := _) rfl (by kernel_rfl) (fun K hK => ?_)
            go_simp
            refine (sleq (xs := tab 9 (mmF 3 3 xs (tab 9 (tpF xs)))) (ys := tab 9 (unitP 3 3)) hS2.2.2.rd HT.out (tab_len _ _) (tab_len _ _) (by decide)).mono ?_
            rw [HE.out]
            rintro ee v3 ⟨rfl, hv⟩
            refine hK.out _ _ (fun _ => ⟨hS2.1.mono hv, hS2.2.1.mono hv, hS2.2.2.mono hv⟩) (fun hS3 => ?_)
            clear hK K
            have hS3 := hS3 (by decide)
            try simp only [Act.put, List.setIfInBounds_toArray, List.set_cons_zero, List.set_cons_succ]
            clear hv HT
            refine wpAnyX_take (i := 8) (oi := _) (v := ?_) rfl (by kernel_rfl) (by kernel_rfl) (by kernel_rfl) (by kernel_rfl) (fun _ _ _ h => h) (Or.inl ⟨by rfl, ?_⟩) hS3 ?_
            rotate_left 1
            · (intro W8 hSw;  go_simp; (try with_reducible rfl))
            change wpAnyX _ _ _ _ _ _ _ _ (Act.put _ (some 47) _) _
            try simp only [Act.put, List.setIfInBounds_toArray, List.set_cons_zero, List.set_cons_succ]
            refine wpAnyX_take (i := 9) (oi := _) (v := ?_) rfl (by kernel_rfl) (by kernel_rfl) (by kernel_rfl) (by kernel_rfl) (fun _ _ _ h => h) (Or.inl ⟨by rfl, ?_⟩) hS3 ?_
            rotate_left 1
            · (intro W8 hSw;  go_simp; (try with_reducible rfl))
            change wpAnyX _ _ _ _ _ _ _ _ (Act.put _ (some 48) _) _
            try simp only [Act.put, List.setIfInBounds_toArray, List.set_cons_zero, List.set_cons_succ]
            refine wpAnyX_done (by kernel_rfl) ?_ _
            go_wp2_with (fail)
            go_ret
            exact ⟨by rw [HV0.out]; rfl, hS3.1.2.2⟩
          · rw [heq] at HV0
            have HE := hid heq
            clear heq
            go_upto_region 10 with (fail)
            refine wp_region_x (fun w' => S9 w g0 cp xs w' ∧ Bx w' b1 30 #[.int .i64 3, .int .i64 3, .slice (some ⟨g, 0, none⟩) 9 9] ∧ Bk w' g 99 (tab 9 (mmF 3 3 xs (tab 9 (tpF xs))))) 1000 (by kernel_rfl) ⟨S9.drew HS.out, HP.out, HG.out⟩ (fun hS0 => ?_)
            refine wpAnyX_take (i := 0) (oi := _) (v := ?_) rfl (by kernel_rfl) (by kernel_rfl) (by kernel_rfl) (by kernel_rfl) (fun _ _ _ h => h) (Or.inl ⟨by rfl, ?_⟩) hS0 ?_
            rotate_left 1
            · (intro W8 hSw;  go_simp; (try with_reducible rfl))
            change wpAnyX _ _ _ _ _ _ _ _ (Act.put _ (some 39) _) _
            try simp only [Act.put, List.setIfInBounds_toArray, List.set_cons_zero, List.set_cons_succ]
            refine wpAnyX_take (i := 1) (oi := _) (v := ?_) rfl (by kernel_rfl) (by kernel_rfl) (by kernel_rfl) (by kernel_rfl) (fun _ _ _ h => h) (Or.inl ⟨by rfl, ?_⟩) hS0 ?_
            rotate_left 1
            · (intro W8 hSw;  go_simp; (try with_reducible rfl))
            change wpAnyX _ _ _ _ _ _ _ _ (Act.put _ (some 40) _) _
            try simp only [Act.put, List.setIfInBounds_toArray, List.set_cons_zero, List.set_cons_succ]
            refine wpAnyX_take (i := 2) (oi := _) (v := ?_) rfl (by kernel_rfl) (by kernel_rfl) (by kernel_rfl) (by kernel_rfl) (fun _ _ _ h => h) (Or.inl ⟨by rfl, ?_⟩) hS0 ?_
            rotate_left 1
            · (intro W8 hSw;  go_simp; (try with_reducible rfl))
            change wpAnyX _ _ _ _ _ _ _ _ (Act.put _ (some 41) _) _
            try simp only [Act.put, List.setIfInBounds_toArray, List.set_cons_zero, List.set_cons_succ]
            refine wpAnyX_take (i := 3) (oi := _) (v := ?_) rfl (by kernel_rfl) (by kernel_rfl) (by kernel_rfl) (by kernel_rfl) (fun _ _ _ h => h) (Or.inl ⟨by rfl, ?_⟩) hS0 ?_
            rotate_left 1
            · (intro W8 hSw;  go_simp; (try with_reducible rfl))
            change wpAnyX _ _ _ _ _ _ _ _ (Act.put _ (some 42) _) _
            try simp only [Act.put, List.setIfInBounds_toArray, List.set_cons_zero, List.set_cons_succ]
            refine wpAnyX_take (i := 4) (oi := _) (v := ?_) rfl (by kernel_rfl) (by kernel_rfl) (by kernel_rfl) (by kernel_rfl) (fun _ _ _ h => h) (Or.inl ⟨by rfl, ?_⟩) hS0 ?_
            rotate_left 1
            · (intro W8 hSw; have e0 := hSw.2.1.c 2 rfl; go_simp; (try with_reducible rfl))
            change wpAnyX _ _ _ _ _ _ _ _ (Act.put _ (some 43) _) _
            try simp only [Act.put, List.setIfInBounds_toArray, List.set_cons_zero, List.set_cons_succ]
            refine wpAnyX_one (i := 5) (o := _) rfl (by kernel_rfl) (fun K hK => ?_)
            go_simp
            refine (nr_i _).mono ?_
            rintro ee v ⟨rfl, hv⟩
            refine hK.out _ _ (fun _ => ⟨hS0.1.mono hv, hS0.2.1.mono hv, hS0.2.2.mono hv⟩) (fun hS1 => ?_)
            clear hK K
            have hS1 := hS1 (by decide)
            try simp only [Act.put, List.setIfInBounds_toArray, List.set_cons_zero, List.set_cons_succ]
            clear hv
            refine wpAnyX_one (i := 6) (o := _) rfl (by kernel_rfl) (fun K hK => ?_)
            go_simp
            refine (rc_i).mono ?_
            rintro ee v2 ⟨tv, rfl, hT, hv⟩
            obtain ⟨h0, cp2, rfl, hTR, hT1, hT2, hT3⟩ := hT.form9 (tab_len _ _)
            refine hK.out _ _ (fun _ => ⟨hS1.1.mono hv, hS1.2.1.mono hv, hS1.2.2.mono hv⟩) (fun hS2 => ?_)
            clear hK K
            have hS2 := hS2 (by decide)
            try simp only [Act.put, List.setIfInBounds_toArray, List.set_cons_zero, List.set_cons_succ]
            have HT := hid hTR
            clear hT hTR hv
            refine wpAnyX_one (i := 7) (o := _) rfl (by kernel_rfl) (fun K hK => ?_)
            go_simp
            refine (sleq (xs := tab 9 (mmF 3 3 xs (tab 9 (tpF xs)))) (ys := tab 9 (unitP 3 3)) hS2.2.2.rd HT.out (tab_len _ _) (tab_len _ _) (by decide)).mono ?_
            rw [HE.out]
            rintro ee v3 ⟨rfl, hv⟩
            refine hK.out _ _ (fun _ => ⟨hS2.1.mono hv, hS2.2.1.mono hv, hS2.2.2.mono hv⟩) (fun hS3 => ?_)
            clear hK K
            have hS3 := hS3 (by decide)
            try simp only [Act.put, List.setIfInBounds_toArray, List.set_cons_zero, List.set_cons_succ]
            clear hv HT
            refine wpAnyX_take (i := 8) (oi := _) (v := ?_) rfl (by kernel_rfl) (by kernel_rfl) (by kernel_rfl) (by kernel_rfl) (fun _ _ _ h => h) (Or.inl ⟨by rfl, ?_⟩) hS3 ?_
            rotate_left 1
            · (intro W8 hSw;  go_simp; (try with_reducible rfl))
            change wpAnyX _ _ _ _ _ _ _ _ (Act.put _ (some 47) _) _
            try simp only [Act.put, List.setIfInBounds_toArray, List.set_cons_zero, List.set_cons_succ]
            refine wpAnyX_take (i := 9) (oi := _) (v := ?_) rfl (by kernel_rfl) (by kernel_rfl) (by kernel_rfl) (by kernel_rfl) (fun _ _ _ h => h) (Or.inl ⟨by rfl, ?_⟩) hS3 ?_
            rotate_left 1
            · (intro W8 hSw;  go_simp; (try with_reducible rfl))
            change wpAnyX _ _ _ _ _ _ _ _ (Act.put _ (some 48) _) _
            try simp only [Act.put, List.setIfInBounds_toArray, List.set_cons_zero, List.set_cons_succ]
            refine wpAnyX_done (by kernel_rfl) ?_ _
            have HS3 := hid hS3.1
            clear hS0 hS1 hS2 hS3 HS HP HG
            obtain ⟨hd1, hd2⟩ := det_p HN.out HB.out
            obtain ⟨D, hD⟩ : ∃ D, D = stK (fun i => xs.getD i z5) 3 := ⟨_, rfl⟩
            rw [← hD] at hd1 hd2
            have HDT : Hid (∀ W : World, Rd W (some ⟨g0, 0, none⟩) xs → g0 < W.heap.size → Calls Try.prog 79 #[mv 3 3 (some ⟨g0, 0, none⟩) 9 cp] W fun ee w' => ee = .returned (.tuple #[D.1.v, .bool (!D.2)]) ∧ Below W.heap.size W w') := hid (by intro W h1 h2; rw [hD]; exact dt_i h1 HN.out HB.out hcp hcp2 h2)
            have HD1 := hid hd1
            have HD2 := hid hd2
            clear hD hd1 hd2
            have kb := HS3.out.2.1.c 0 rfl
            go_wp2_with (fail)
            refine (cmx_i _).mono ?_
            rintro ee w9 ⟨rfl, hw9⟩
            have HS9 := hid (HS3.out.mono hw9)
            have hgs : g0 < w9.heap.size := by have := HS9.out.2.2.size; omega
            clear kb hw9 HS3
            go_wp2_with (fail)
            refine (HDT.out _ HS9.out.1 hgs).mono ?_
            rintro ee wa ⟨rfl, hwa⟩
            have HSa := hid (HS9.out.mono hwa)
            clear hwa HS9
            go_upto_region 13 with (fail)
            obtain ⟨wb, hwb⟩ : ∃ wb : World, wb = wa.alloc (.cells #[.int .i64 D.1.a, .int .i64 D.1.b, .int .i64 D.1.c, .int .i64 D.1.d, .int .i64 D.1.e] 99) := ⟨_, rfl⟩
            have HSb : Hid (S9 w g0 cp xs wb) := hid (by rw [hwb]; exact HSa.out.alloc _)
            have HDb : Hid (Bx wb wa.heap.size 99 #[.int .i64 D.1.a, .int .i64 D.1.b, .int .i64 D.1.c, .int .i64 D.1.d, .int .i64 D.1.e]) := hid (by rw [hwb]; exact Bx.new rfl)
            rw [← hwb]
            clear hwb HSa
            cases hz : D.2
            · have HZ := hid hz
              rw [hz] at HD1
              have HDZ : Hid (detZ (fun i => xs.getD i z5) = false) := hid HD1.out.symm
              have HDV : Hid ((detV2 (fun i => xs.getD i z5)).1 = D.1) := hid (HD2.out HDZ.out).symm
              clear hz
              by_cases hd : D.1 = one5
              · have HD9 : Hid (D.1.a = one5.a ∧ D.1.b = one5.b ∧ D.1.c = one5.c ∧ D.1.d = one5.d ∧ D.1.e = one5.e) := by show _ ∧ _; rw [hd]; exact ⟨rfl, rfl, rfl, rfl, rfl⟩ 
                have HBE : Hid (D.1.beq one5 = true) := hid (beq_iff5.2 hd)
                clear hd
                have HV := hid HV0.out
                rw [HDZ.out, HDV.out, HBE.out] at HV
                clear HV0
                (try simp only [HZ.out])
                refine wp_region_x (fun w' => S9 w g0 cp xs w' ∧ Bx w' wa.heap.size 99 #[.int .i64 D.1.a, .int .i64 D.1.b, .int .i64 D.1.c, .int .i64 D.1.d, .int .i64 D.1.e]) 1000 (by kernel_rfl) ⟨S9.drew HSb.out, HDb.out⟩ (fun hS0 => ?_)
                refine wpAnyX_take (i := 0) (oi := _) (v := ?_) rfl (by kernel_rfl) (by kernel_rfl) (by kernel_rfl) (by kernel_rfl) (fun _ _ _ h => h) (Or.inl ⟨by rfl, ?_⟩) hS0 ?_
                rotate_left 1
                · (intro W8 hSw;  go_simp; (try with_reducible rfl))
                change wpAnyX _ _ _ _ _ _ _ _ (Act.put _ (some 56) _) _
                try simp only [Act.put, List.setIfInBounds_toArray, List.set_cons_zero, List.set_cons_succ]
                refine wpAnyX_take (i := 1) (oi := _) (v := ?_) rfl (by kernel_rfl) (by kernel_rfl) (by kernel_rfl) (by kernel_rfl) (fun _ _ _ h => h) (Or.inl ⟨by rfl, ?_⟩) hS0 ?_
                rotate_left 1
                · (intro W8 hSw;  go_simp; (try with_reducible rfl))
                change wpAnyX _ _ _ _ _ _ _ _ (Act.put _ (some 57) _) _
                try simp only [Act.put, List.setIfInBounds_toArray, List.set_cons_zero, List.set_cons_succ]
                refine wpAnyX_take (i := 2) (oi := _) (v := ?_) rfl (by kernel_rfl) (by kernel_rfl) (by kernel_rfl) (by kernel_rfl) (fun _ _ _ h => h) (Or.inl ⟨by rfl, ?_⟩) hS0 ?_
                rotate_left 1
                · (intro W8 hSw; have e0 := hSw.2.c 0 rfl; have e1 := hSw.2.c 1 rfl; have e2 := hSw.2.c 2 rfl; have e3 := hSw.2.c 3 rfl; have e4 := hSw.2.c 4 rfl; go_simp; (try with_reducible rfl))
                change wpAnyX _ _ _ _ _ _ _ _ (Act.put _ (some 58) _) _
                try simp only [Act.put, List.setIfInBounds_toArray, List.set_cons_zero, List.set_cons_succ]
                refine wpAnyX_one (i := 3) (o := _) rfl (by kernel_rfl) (fun K hK => ?_)
                go_simp
                refine (omq0).mono ?_
                rintro ee v ⟨rfl, hv⟩
                refine hK.out _ _ (fun _ => ⟨hS0.1.mono hv, hS0.2.mono hv⟩) (fun hS1 => ?_)
                clear hK K
                have hS1 := hS1 (by decide)
                try simp only [Act.put, List.setIfInBounds_toArray, List.set_cons_zero, List.set_cons_succ]
                refine wpAnyX_take (i := 4) (oi := _) (v := .bool true) rfl (by kernel_rfl) (by kernel_rfl) (by kernel_rfl) (by kernel_rfl) (fun _ _ _ h => h) (Or.inl ⟨by rfl, ?_⟩) hS1 ?_
                · (intro W8 hSw; go_simp; first | exact (if5c _ _).trans (if_pos HD9.out) | exact fun h1 h2 h3 h4 h5 => HD9.out ⟨h1, h2, h3, h4, h5⟩)
                change wpAnyX _ _ _ _ _ _ _ _ (Act.put _ (some 60) _) _
                try simp only [Act.put, List.setIfInBounds_toArray, List.set_cons_zero, List.set_cons_succ]
                refine wpAnyX_take (i := 5) (oi := _) (v := ?_) rfl (by kernel_rfl) (by kernel_rfl) (by kernel_rfl) (by kernel_rfl) (fun _ _ _ h => h) (Or.inl ⟨by rfl, ?_⟩) hS1 ?_
                rotate_left 1
                · (intro W8 hSw;  go_simp; (try with_reducible rfl))
                change wpAnyX _ _ _ _ _ _ _ _ (Act.put _ (some 61) _) _
                try simp only [Act.put, List.setIfInBounds_toArray, List.set_cons_zero, List.set_cons_succ]
                refine wpAnyX_take (i := 6) (oi := _) (v := ?_) rfl (by kernel_rfl) (by kernel_rfl) (by kernel_rfl) (by kernel_rfl) (fun _ _ _ h => h) (Or.inl ⟨by rfl, ?_⟩) hS1 ?_
                rotate_left 1
                · (intro W8 hSw;  go_simp; (try with_reducible rfl))
                change wpAnyX _ _ _ _ _ _ _ _ (Act.put _ (some 2) _) _
                try simp only [Act.put, List.setIfInBounds_toArray, List.set_cons_zero, List.set_cons_succ]
                refine wpAnyX_done (by kernel_rfl) ?_ _
                go_wp2_with (fail)
                go_ret
                exact ⟨by rw [HV.out]; rfl, hS1.1.2.2⟩
              · have HD9 : Hid (¬ (D.1.a = 1 ∧ D.1.b = 0 ∧ D.1.c = 0 ∧ D.1.d = 0 ∧ D.1.e = 0)) := ne_all5 hd
                have HBE : Hid (D.1.beq one5 = false) := hid (Bool.eq_false_iff.2 (fun h9 => hd (beq_iff5.1 h9)))
                clear hd
                have HV := hid HV0.out
                rw [HDZ.out, HDV.out, HBE.out] at HV
                clear HV0
                (try simp only [HZ.out])
                refine wp_region_x (fun w' => S9 w g0 cp xs w' ∧ Bx w' wa.heap.size 99 #[.int .i64 D.1.a, .int .i64 D.1.b, .int .i64 D.1.c, .int .i64 D.1.d, .int .i64 D.1.e]) 1000 (by kernel_rfl) ⟨S9.drew HSb.out, HDb.out⟩ (fun hS0 => ?_)
                refine wpAnyX_take (i := 0) (oi := _) (v := ?_) rfl (by kernel_rfl) (by kernel_rfl) (by kernel_rfl) (by kernel_rfl) (fun _ _ _ h => h) (Or.inl ⟨by rfl, ?_⟩) hS0 ?_
                rotate_left 1
                · (intro W8 hSw;  go_simp; (try with_reducible rfl))
                change wpAnyX _ _ _ _ _ _ _ _ (Act.put _ (some 56) _) _
                try simp only [Act.put, List.setIfInBounds_toArray, List.set_cons_zero, List.set_cons_succ]
                refine wpAnyX_take (i := 1) (oi := _) (v := ?_) rfl (by kernel_rfl) (by kernel_rfl) (by kernel_rfl) (by kernel_rfl) (fun _ _ _ h => h) (Or.inl ⟨by rfl, ?_⟩) hS0 ?_
                rotate_left 1
                · (intro W8 hSw;  go_simp; (try with_reducible rfl))
                change wpAnyX _ _ _ _ _ _ _ _ (Act.put _ (some 57) _) _
                try simp only [Act.put, List.setIfInBounds_toArray, List.set_cons_zero, List.set_cons_succ]
                refine wpAnyX_take (i := 2) (oi := _) (v := ?_) rfl (by kernel_rfl) (by kernel_rfl) (by kernel_rfl) (by kernel_rfl) (fun _ _ _ h => h) (Or.inl ⟨by rfl, ?_⟩) hS0 ?_
                rotate_left 1
                · (intro W8 hSw; have e0 := hSw.2.c 0 rfl; have e1 := hSw.2.c 1 rfl; have e2 := hSw.2.c 2 rfl; have e3 := hSw.2.c 3 rfl; have e4 := hSw.2.c 4 rfl; go_simp; (try with_reducible rfl))
                change wpAnyX _ _ _ _ _ _ _ _ (Act.put _ (some 58) _) _
                try simp only [Act.put, List.setIfInBounds_toArray, List.set_cons_zero, List.set_cons_succ]
                refine wpAnyX_one (i := 3) (o := _) rfl (by kernel_rfl) (fun K hK => ?_)
                go_simp
                refine (omq0).mono ?_
                rintro ee v ⟨rfl, hv⟩
                refine hK.out _ _ (fun _ => ⟨hS0.1.mono hv, hS0.2.mono hv⟩) (fun hS1 => ?_)
                clear hK K
                have hS1 := hS1 (by decide)
                try simp only [Act.put, List.setIfInBounds_toArray, List.set_cons_zero, List.set_cons_succ]
                refine wpAnyX_take (i := 4) (oi := _) (v := .bool false) rfl (by kernel_rfl) (by kernel_rfl) (by kernel_rfl) (by kernel_rfl) (fun _ _ _ h => h) (Or.inl ⟨by rfl, ?_⟩) hS1 ?_
                · (intro W8 hSw; go_simp; first | exact (if5c _ _).trans (if_neg HD9.out) | exact fun h1 h2 h3 h4 h5 => HD9.out ⟨h1, h2, h3, h4, h5⟩)
                change wpAnyX _ _ _ _ _ _ _ _ (Act.put _ (some 60) _) _
                try simp only [Act.put, List.setIfInBounds_toArray, List.set_cons_zero, List.set_cons_succ]
                refine wpAnyX_take (i := 5) (oi := _) (v := ?_) rfl (by kernel_rfl) (by kernel_rfl) (by kernel_rfl) (by kernel_rfl) (fun _ _ _ h => h) (Or.inl ⟨by rfl, ?_⟩) hS1 ?_
                rotate_left 1
                · (intro W8 hSw;  go_simp; (try with_reducible rfl))
                change wpAnyX _ _ _ _ _ _ _ _ (Act.put _ (some 61) _) _
                try simp only [Act.put, List.setIfInBounds_toArray, List.set_cons_zero, List.set_cons_succ]
                refine wpAnyX_take (i := 6) (oi := _) (v := ?_) rfl (by kernel_rfl) (by kernel_rfl) (by kernel_rfl) (by kernel_rfl) (fun _ _ _ h => h) (Or.inl ⟨by rfl, ?_⟩) hS1 ?_
                rotate_left 1
                · (intro W8 hSw;  go_simp; (try with_reducible rfl))
                change wpAnyX _ _ _ _ _ _ _ _ (Act.put _ (some 2) _) _
                try simp only [Act.put, List.setIfInBounds_toArray, List.set_cons_zero, List.set_cons_succ]
                refine wpAnyX_done (by kernel_rfl) ?_ _
                go_wp2_with (fail)
                go_ret
                exact ⟨by rw [HV.out]; rfl, hS1.1.2.2⟩
            · have HDZ : Hid (detZ (fun i => xs.getD i z5) = true) := hid (by rw [← HD1.out, hz])
              have HZ := hid hz
              clear hz
              have HV := hid HV0.out
              rw [HDZ.out] at HV
              clear HV0
              (try simp only [HZ.out])
              refine wp_region_x (fun w' => S9 w g0 cp xs w' ∧ Bx w' wa.heap.size 99 #[.int .i64 D.1.a, .int .i64 D.1.b, .int .i64 D.1.c, .int .i64 D.1.d, .int .i64 D.1.e]) 1000 (by kernel_rfl) ⟨S9.drew HSb.out, HDb.out⟩ (fun hS0 => ?_)
              refine wpAnyX_take (i := 0) (oi := _) (v := ?_) rfl (by kernel_rfl) (by kernel_rfl) (by kernel_rfl) (by kernel_rfl) (fun _ _ _ h => h) (Or.inl ⟨by rfl, ?_⟩) hS0 ?_
              rotate_left 1
              · (intro W8 hSw;  go_simp; (try with_reducible rfl))
              change wpAnyX _ _ _ _ _ _ _ _ (Act.put _ (some 56) _) _
              try simp only [Act.put, List.setIfInBounds_toArray, List.set_cons_zero, List.set_cons_succ]
              refine wpAnyX_take (i := 1) (oi := _) (v := ?_) rfl (by kernel_rfl) (by kernel_rfl) (by kernel_rfl) (by kernel_rfl) (fun _ _ _ h => h) (Or.inl ⟨by rfl, ?_⟩) hS0 ?_
              rotate_left 1
              · (intro W8 hSw;  go_simp; (try with_reducible rfl))
              change wpAnyX _ _ _ _ _ _ _ _ (Act.put _ (some 57) _) _
              try simp only [Act.put, List.setIfInBounds_toArray, List.set_cons_zero, List.set_cons_succ]
              refine wpAnyX_take (i := 2) (oi := _) (v := undef) rfl (by kernel_rfl) (by kernel_rfl) (by kernel_rfl) (by kernel_rfl) (fun _ _ _ h => h) (Or.inr ⟨by rfl, rfl⟩) hS0 ?_
              change wpAnyX _ _ _ _ _ _ _ _ (Act.put _ (some 58) _) _
              try simp only [Act.put, List.setIfInBounds_toArray, List.set_cons_zero, List.set_cons_succ]
              refine wpAnyX_take (i := 3) (oi := _) (v := undef) rfl (by kernel_rfl) (by kernel_rfl) (by kernel_rfl) (by kernel_rfl) (fun _ _ _ h => h) (Or.inr ⟨by rfl, rfl⟩) hS0 ?_
              change wpAnyX _ _ _ _ _ _ _ _ (Act.put _ (some 59) _) _
              try simp only [Act.put, List.setIfInBounds_toArray, List.set_cons_zero, List.set_cons_succ]
              refine wpAnyX_take (i := 4) (oi := _) (v := undef) rfl (by kernel_rfl) (by kernel_rfl) (by kernel_rfl) (by kernel_rfl) (fun _ _ _ h => h) (Or.inr ⟨by rfl, rfl⟩) hS0 ?_
              change wpAnyX _ _ _ _ _ _ _ _ (Act.put _ (some 60) _) _
              try simp only [Act.put, List.setIfInBounds_toArray, List.set_cons_zero, List.set_cons_succ]
              refine wpAnyX_take (i := 5) (oi := _) (v := ?_) rfl (by kernel_rfl) (by kernel_rfl) (by kernel_rfl) (by kernel_rfl) (fun _ _ _ h => h) (Or.inl ⟨by rfl, ?_⟩) hS0 ?_
              rotate_left 1
              · (intro W8 hSw;  go_simp; (try with_reducible rfl))
              change wpAnyX _ _ _ _ _ _ _ _ (Act.put _ (some 61) _) _
              try simp only [Act.put, List.setIfInBounds_toArray, List.set_cons_zero, List.set_cons_succ]
              refine wpAnyX_take (i := 6) (oi := _) (v := ?_) rfl (by kernel_rfl) (by kernel_rfl) (by kernel_rfl) (by kernel_rfl) (fun _ _ _ h => h) (Or.inl ⟨by rfl, ?_⟩) hS0 ?_
              rotate_left 1
              · (intro W8 hSw;  go_simp; (try with_reducible rfl))
              change wpAnyX _ _ _ _ _ _ _ _ (Act.put _ (some 2) _) _
              try simp only [Act.put, List.setIfInBounds_toArray, List.set_cons_zero, List.set_cons_succ]
              refine wpAnyX_done (by kernel_rfl) ?_ _
              go_wp2_with (fail)
              go_ret
              exact ⟨by rw [HV.out]; rfl, hS0.1.2.2⟩
      · have HANY := hid hany
        clear hany
        go_cut [5, 6] (fun s5 s6 wx => CutG (∃ b1 : Nat, s5 = .pointer (some ⟨b1, 0, none⟩) ∧ s6 = .bool false) (Hid (S9 w g0 cp xs wx)))
        case first =>
          refine wp_region_x (S9 w g0 cp xs) 1000 (by kernel_rfl) (S9.drew HS.out) (fun hS0 => ?_)
          refine wpAnyX_take (i := 0) (oi := _) (v := ?_) rfl (by kernel_rfl) (by kernel_rfl) (by kernel_rfl) (by kernel_rfl) (fun _ _ _ h => h) (Or.inl ⟨by rfl, ?_⟩) hS0 ?_
          rotate_left 1
          · (intro W8 hSw;  go_simp; (try with_reducible rfl))
          change wpAnyX _ _ _ _ _ _ _ _ (Act.put _ (some 29) _) _
          try simp only [Act.put, List.setIfInBounds_toArray, List.set_cons_zero, List.set_cons_succ]
          refine wpAnyX_take (i := 1) (oi := _) (v := ?_) rfl (by kernel_rfl) (by kernel_rfl) (by kernel_rfl) (by kernel_rfl) (fun _ _ _ h => h) (Or.inl ⟨by rfl, ?_⟩) hS0 ?_
          rotate_left 1
          · (intro W8 hSw; have e0 := hSw.2.1.c 0 rfl; go_simp; (try with_reducible rfl))
          change wpAnyX _ _ _ _ _ _ _ _ (Act.put _ (some 30) _) _
          try simp only [Act.put, List.setIfInBounds_toArray, List.set_cons_zero, List.set_cons_succ]
          refine wpAnyX_take (i := 3) (oi := _) (v := ?_) rfl (by kernel_rfl) (by kernel_rfl) (by kernel_rfl) (by kernel_rfl) (fun _ _ _ h => h) (Or.inl ⟨by rfl, ?_⟩) hS0 ?_
          rotate_left 1
          · (intro W8 hSw;  go_simp; (try with_reducible rfl))
          change wpAnyX _ _ _ _ _ _ _ _ (Act.put _ (some 32) _) _
          try simp only [Act.put, List.setIfInBounds_toArray, List.set_cons_zero, List.set_cons_succ]
          refine wpAnyX_take (i := 4) (oi := _) (v := ?_) rfl (by kernel_rfl) (by kernel_rfl) (by kernel_rfl) (by kernel_rfl) (fun _ _ _ h => h) (Or.inl ⟨by rfl, ?_⟩) hS0 ?_
          rotate_left 1
          · (intro W8 hSw; have e0 := hSw.2.1.c 0 rfl; go_simp; (try with_reducible rfl))
          change wpAnyX _ _ _ _ _ _ _ _ (Act.put _ (some 33) _) _
          try simp only [Act.put, List.setIfInBounds_toArray, List.set_cons_zero, List.set_cons_succ]
          refine wpAnyX_two (i := 2) (j := 11) (oi := _) (oj := _) rfl rfl (by kernel_rfl) (fun K hK => ?_) (fun K hK => ?_)
          · go_simp
            refine (cmx_i _).mono ?_
            rintro ee v ⟨rfl, hv⟩
            refine hK.out _ _ (fun _ => hS0.mono hv) (fun hS1 => ?_)
            clear hK K
            have hS1 := hS1 (by decide)
            clear hv
            try simp only [Act.put, List.setIfInBounds_toArray, List.set_cons_zero, List.set_cons_succ]
            refine wpAnyX_two (i := 5) (j := 11) (oi := _) (oj := _) rfl rfl (by kernel_rfl) (fun K hK => ?_) (fun K hK => ?_)
            · go_simp
              refine (tr_i (hS1.1) HN.out).mono ?_
              rintro ee v ⟨tv, rfl, hT, hv⟩
              obtain ⟨h0, cp2, rfl, hTR, hT1, hT2, hT3⟩ := hT.form9 (tab_len _ _)
              refine hK.out _ _ (fun _ => hS1.mono hv) (fun hS2 => ?_)
              clear hK K
              have hS2 := hS2 (by decide)
              have HT := hid hTR
              clear hT hTR
              clear hv
              try simp only [Act.put, List.setIfInBounds_toArray, List.set_cons_zero, List.set_cons_succ]
              refine wpAnyX_two (i := 6) (j := 11) (oi := _) (oj := _) rfl rfl (by kernel_rfl) (fun K hK => ?_) (fun K hK => ?_)
              · go_simp
                refine (cmx_i _).mono ?_
                rintro ee v ⟨rfl, hv⟩
                refine hK.out _ _ (fun _ => hS2.mono hv) (fun hS3 => ?_)
                clear hK K
                have hS3 := hS3 (by decide)
                replace HT := hid (HT.out.mono hv)
                clear hv
                try simp only [Act.put, List.setIfInBounds_toArray, List.set_cons_zero, List.set_cons_succ]
                refine wpAnyX_two (i := 7) (j := 11) (oi := _) (oj := _) rfl rfl (by kernel_rfl) (fun K hK => ?_) (fun K hK => ?_)
                · go_simp
                  (try have hPl := HP.out.lt)
                  refine (pr3 (hS3.1) HT.out HN.out (tab_len _ _) HB.out (tpF_ok HN.out HB.out) hcp hcp2 hT3).mono ?_
                  rintro ee v ⟨hbad, hgood, hv⟩
                  obtain rfl := hbad HANY.out
                  clear hbad hgood
                  refine hK.out _ _ (fun _ => hS3.mono hv) (fun hS4 => ?_)
                  clear hK K
                  have hS4 := hS4 (by decide)
                  replace HT := hid (HT.out.mono hv)
                  clear hv
                  try simp only [Act.put, List.setIfInBounds_toArray, List.set_cons_zero, List.set_cons_succ]
                  refine wpAnyX_take (i := 8) (oi := _) (v := ?_) rfl (by kernel_rfl) (by kernel_rfl) (by kernel_rfl) (by kernel_rfl) (fun _ _ _ h => h) (Or.inl ⟨by rfl, ?_⟩) hS4 ?_
                  rotate_left 1
                  · (intro W8 hSw;  go_simp; (try with_reducible rfl))
                  change wpAnyX _ _ _ _ _ _ _ _ (Act.put _ (some 28) _) _
                  try simp only [Act.put, List.setIfInBounds_toArray, List.set_cons_zero, List.set_cons_succ]
                  refine wpAnyX_take (i := 9) (oi := _) (v := ?_) rfl (by kernel_rfl) (by kernel_rfl) (by kernel_rfl) (by kernel_rfl) (fun _ _ _ h => h) (Or.inl ⟨by rfl, ?_⟩) hS4 ?_
                  rotate_left 1
                  · (intro W8 hSw;  go_simp; (try with_reducible rfl))
                  change wpAnyX _ _ _ _ _ _ _ _ (Act.put _ (some 37) _) _
                  try simp only [Act.put, List.setIfInBounds_toArray, List.set_cons_zero, List.set_cons_succ]
                  refine wpAnyX_take (i := 10) (oi := _) (v := ?_) rfl (by kernel_rfl) (by kernel_rfl) (by kernel_rfl) (by kernel_rfl) (fun _ _ _ h => h) (Or.inl ⟨by rfl, ?_⟩) hS4 ?_
                  rotate_left 1
                  · (intro W8 hSw;  go_simp; (try with_reducible rfl))
                  change wpAnyX _ _ _ _ _ _ _ _ (Act.put _ (some 38) _) _
                  try simp only [Act.put, List.setIfInBounds_toArray, List.set_cons_zero, List.set_cons_succ]
                  refine wpAnyX_one (i := 11) (o := _) rfl (by kernel_rfl) (fun K hK => ?_)
                  go_simp
                  refine hK.out _ _ (fun _ => hS4.alloc _) (fun hS5 => ?_)
                  clear hK K
                  have hS5 := hS5 (by decide)
                  (try have hGl := HG.out.lt)
                  replace HT := hid (al_rd HT.out hS5)
                  have hP1 := S9.newlt hS4
                  have HP := hid (by first | exact S9.newbox hS5 | exact S9.newboxd hS5)
                  try simp only [Act.put, List.setIfInBounds_toArray, List.set_cons_zero, List.set_cons_succ]
                  have k0 := HP.out.c 0 rfl
                  have k1 := HP.out.c 1 rfl
                  have k2 := HP.out.c 2 rfl
                  have kf := HP.out.f
                  have kl := HP.out.lt
                  refine wpAnyX_one (i := 12) (o := _) rfl (by kernel_rfl) (fun K hK => ?_)
                  go_simp
                  refine hK.out _ _ (fun _ => by first | exact ((hS5.set hP1 hgl).set hP1 hgl).set hP1 hgl | exact hS4.alloc _) (fun hS6 => ?_)
                  clear hK K
                  have hS6 := hS6 (by decide)
                  try simp only [Act.put, List.setIfInBounds_toArray, List.set_cons_zero, List.set_cons_succ]
                  refine wpAnyX_one (i := 13) (o := _) rfl (by kernel_rfl) (fun K hK => ?_)
                  go_simp
                  refine hK.out _ _ (fun _ => hS6) (fun hS7 => ?_)
                  clear hK K
                  have hS7 := hS7 (by decide)
                  try simp only [Act.put, List.setIfInBounds_toArray, List.set_cons_zero, List.set_cons_succ]
                  refine wpAnyX_done (by kernel_rfl) ?_ _
                  go_wp2_with (fail)
                  go_meet
                  exact ⟨⟨_, rfl, rfl⟩, hid hS7⟩
                · go_simp
                  refine hK.out _ _ (fun _ => hS3.alloc _) (fun hS4 => ?_)
                  clear hK K
                  have hS4 := hS4 (by decide)
                  (try have hGl := HG.out.lt)
                  replace HT := hid (al_rd HT.out hS4)
                  have hP1 := S9.newlt hS3
                  have HP := hid (by first | exact S9.newbox hS4 | exact S9.newboxd hS4)
                  try simp only [Act.put, List.setIfInBounds_toArray, List.set_cons_zero, List.set_cons_succ]
                  refine wpAnyX_one (i := 7) (o := _) rfl (by kernel_rfl) (fun K hK => ?_)
                  go_simp
                  (try have hPl := HP.out.lt)
                  refine (pr3 (hS4.1) HT.out HN.out (tab_len _ _) HB.out (tpF_ok HN.out HB.out) hcp hcp2 hT3).mono ?_
                  rintro ee v ⟨hbad, hgood, hv⟩
                  obtain rfl := hbad HANY.out
                  clear hbad hgood
                  refine hK.out _ _ (fun _ => hS4.mono hv) (fun hS5 => ?_)
                  clear hK K
                  have hS5 := hS5 (by decide)
                  replace HT := hid (HT.out.mono hv)
                  replace HP := hid (HP.out.mono hv)
                  clear hv
                  try simp only [Act.put, List.setIfInBounds_toArray, List.set_cons_zero, List.set_cons_succ]
                  refine wpAnyX_take (i := 8) (oi := _) (v := ?_) rfl (by kernel_rfl) (by kernel_rfl) (by kernel_rfl) (by kernel_rfl) (fun _ _ _ h => h) (Or.inl ⟨by rfl, ?_⟩) hS5 ?_
                  rotate_left 1
                  · (intro W8 hSw;  go_simp; (try with_reducible rfl))
                  change wpAnyX _ _ _ _ _ _ _ _ (Act.put _ (some 28) _) _
                  try simp only [Act.put, List.setIfInBounds_toArray, List.set_cons_zero, List.set_cons_succ]
                  refine wpAnyX_take (i := 9) (oi := _) (v := ?_) rfl (by kernel_rfl) (by kernel_rfl) (by kernel_rfl) (by kernel_rfl) (fun _ _ _ h => h) (Or.inl ⟨by rfl, ?_⟩) hS5 ?_
                  rotate_left 1
                  · (intro W8 hSw;  go_simp; (try with_reducible rfl))
                  change wpAnyX _ _ _ _ _ _ _ _ (Act.put _ (some 37) _) _
                  try simp only [Act.put, List.setIfInBounds_toArray, List.set_cons_zero, List.set_cons_succ]
                  refine wpAnyX_take (i := 10) (oi := _) (v := ?_) rfl (by kernel_rfl) (by kernel_rfl) (by kernel_rfl) (by kernel_rfl) (fun _ _ _ h => h) (Or.inl ⟨by rfl, ?_⟩) hS5 ?_
                  rotate_left 1
                  · (intro W8 hSw;  go_simp; (try with_reducible rfl))
                  change wpAnyX _ _ _ _ _ _ _ _ (Act.put _ (some 38) _) _
                  try simp only [Act.put, List.setIfInBounds_toArray, List.set_cons_zero, List.set_cons_succ]
                  have k0 := HP.out.c 0 rfl
                  have k1 := HP.out.c 1 rfl
                  have k2 := HP.out.c 2 rfl
                  have kf := HP.out.f
                  have kl := HP.out.lt
                  refine wpAnyX_one (i := 12) (o := _) rfl (by kernel_rfl) (fun K hK => ?_)
                  go_simp
                  refine hK.out _ _ (fun _ => by first | exact ((hS5.set hP1 hgl).set hP1 hgl).set hP1 hgl | exact hS4.alloc _) (fun hS6 => ?_)
                  clear hK K
                  have hS6 := hS6 (by decide)
                  try simp only [Act.put, List.setIfInBounds_toArray, List.set_cons_zero, List.set_cons_succ]
                  refine wpAnyX_one (i := 13) (o := _) rfl (by kernel_rfl) (fun K hK => ?_)
                  go_simp
                  refine hK.out _ _ (fun _ => hS6) (fun hS7 => ?_)
                  clear hK K
                  have hS7 := hS7 (by decide)
                  try simp only [Act.put, List.setIfInBounds_toArray, List.set_cons_zero, List.set_cons_succ]
                  refine wpAnyX_done (by kernel_rfl) ?_ _
                  go_wp2_with (fail)
                  go_meet
                  exact ⟨⟨_, rfl, rfl⟩, hid hS7⟩
              · go_simp
                refine hK.out _ _ (fun _ => hS2.alloc _) (fun hS3 => ?_)
                clear hK K
                have hS3 := hS3 (by decide)
                (try have hGl := HG.out.lt)
                replace HT := hid (al_rd HT.out hS3)
                have hP1 := S9.newlt hS2
                have HP := hid (by first | exact S9.newbox hS3 | exact S9.newboxd hS3)
                try simp only [Act.put, List.setIfInBounds_toArray, List.set_cons_zero, List.set_cons_succ]
                refine wpAnyX_one (i := 6) (o := _) rfl (by kernel_rfl) (fun K hK => ?_)
                go_simp
                refine (cmx_i _).mono ?_
                rintro ee v ⟨rfl, hv⟩
                refine hK.out _ _ (fun _ => hS3.mono hv) (fun hS4 => ?_)
                clear hK K
                have hS4 := hS4 (by decide)
                replace HT := hid (HT.out.mono hv)
                replace HP := hid (HP.out.mono hv)
                clear hv
                try simp only [Act.put, List.setIfInBounds_toArray, List.set_cons_zero, List.set_cons_succ]
                refine wpAnyX_one (i := 7) (o := _) rfl (by kernel_rfl) (fun K hK => ?_)
                go_simp
                (try have hPl := HP.out.lt)
                refine (pr3 (hS4.1) HT.out HN.out (tab_len _ _) HB.out (tpF_ok HN.out HB.out) hcp hcp2 hT3).mono ?_
                rintro ee v ⟨hbad, hgood, hv⟩
                obtain rfl := hbad HANY.out
                clear hbad hgood
                refine hK.out _ _ (fun _ => hS4.mono hv) (fun hS5 => ?_)
                clear hK K
                have hS5 := hS5 (by decide)
                replace HT := hid (HT.out.mono hv)
                replace HP := hid (HP.out.mono hv)
                clear hv
                try simp only [Act.put, List.setIfInBounds_toArray, List.set_cons_zero, List.set_cons_succ]
                refine wpAnyX_take (i := 8) (oi := _) (v := ?_) rfl (by kernel_rfl) (by kernel_rfl) (by kernel_rfl) (by kernel_rfl) (fun _ _ _ h => h) (Or.inl ⟨by rfl, ?_⟩) hS5 ?_
                rotate_left 1
                · (intro W8 hSw;  go_simp; (try with_reducible rfl))
                change wpAnyX _ _ _ _ _ _ _ _ (Act.put _ (some 28) _) _
                try simp only [Act.put, List.setIfInBounds_toArray, List.set_cons_zero, List.set_cons_succ]
                refine wpAnyX_take (i := 9) (oi := _) (v := ?_) rfl (by kernel_rfl) (by kernel_rfl) (by kernel_rfl) (by kernel_rfl) (fun _ _ _ h => h) (Or.inl ⟨by rfl, ?_⟩) hS5 ?_
                rotate_left 1
                · (intro W8 hSw;  go_simp; (try with_reducible rfl))
                change wpAnyX _ _ _ _ _ _ _ _ (Act.put _ (some 37) _) _
                try simp only [Act.put, List.setIfInBounds_toArray, List.set_cons_zero, List.set_cons_succ]
                refine wpAnyX_take (i := 10) (oi := _) (v := ?_) rfl (by kernel_rfl) (by kernel_rfl) (by kernel_rfl) (by kernel_rfl) (fun _ _ _ h => h) (Or.inl ⟨by rfl, ?_⟩) hS5 ?_
                rotate_left 1
                · (intro W8 hSw;  go_simp; (try with_reducible rfl))
                change wpAnyX _ _ _ _ _ _ _ _ (Act.put _ (some 38) _) _
                try simp only [Act.put, List.setIfInBounds_toArray, List.set_cons_zero, List.set_cons_succ]
                have k0 := HP.out.c 0 rfl
                have k1 := HP.out.c 1 rfl
                have k2 := HP.out.c 2 rfl
                have kf := HP.out.f
                have kl := HP.out.lt
                refine wpAnyX_one (i := 12) (o := _) rfl (by kernel_rfl) (fun K hK => ?_)
                go_simp
                refine hK.out _ _ (fun _ => by first | exact ((hS5.set hP1 hgl).set hP1 hgl).set hP1 hgl | exact hS4.alloc _) (fun hS6 => ?_)
                clear hK K
                have hS6 := hS6 (by decide)
                try simp only [Act.put, List.setIfInBounds_toArray, List.set_cons_zero, List.set_cons_succ]
                refine wpAnyX_one (i := 13) (o := _) rfl (by kernel_rfl) (fun K hK => ?_)
                go_simp
                refine hK.out _ _ (fun _ => hS6) (fun hS7 => ?_)
                clear hK K
                have hS7 := hS7 (by decide)
                try simp only [Act.put, List.setIfInBounds_toArray, List.set_cons_zero, List.set_cons_succ]
                refine wpAnyX_done (by kernel_rfl) ?_ _
                go_wp2_with (fail)
                go_meet
                exact ⟨⟨_, rfl, rfl⟩, hid hS7⟩
            · go_simp
              refine hK.out _ _ (fun _ => hS1.alloc _) (fun hS2 => ?_)
              clear hK K
              have hS2 := hS2 (by decide)
              (try have hGl := HG.out.lt)
              have hP1 := S9.newlt hS1
              have HP := hid (by first | exact S9.newbox hS2 | exact S9.newboxd hS2)
              try simp only [Act.put, List.setIfInBounds_toArray, List.set_cons_zero, List.set_cons_succ]
              refine wpAnyX_one (i := 5) (o := _) rfl (by kernel_rfl) (fun K hK => ?_)
              go_simp
              refine (tr_i (hS2.1) HN.out).mono ?_
              rintro ee v ⟨tv, rfl, hT, hv⟩
              obtain ⟨h0, cp2, rfl, hTR, hT1, hT2, hT3⟩ := hT.form9 (tab_len _ _)
              refine hK.out _ _ (fun _ => hS2.mono hv) (fun hS3 => ?_)
              clear hK K
              have hS3 := hS3 (by decide)
              replace HP := hid (HP.out.mono hv)
              have HT := hid hTR
              clear hT hTR
              clear hv
              try simp only [Act.put, List.setIfInBounds_toArray, List.set_cons_zero, List.set_cons_succ]
              refine wpAnyX_one (i := 6) (o := _) rfl (by kernel_rfl) (fun K hK => ?_)
              go_simp
              refine (cmx_i _).mono ?_
              rintro ee v ⟨rfl, hv⟩
              refine hK.out _ _ (fun _ => hS3.mono hv) (fun hS4 => ?_)
              clear hK K
              have hS4 := hS4 (by decide)
              replace HP := hid (HP.out.mono hv)
              replace HT := hid (HT.out.mono hv)
              clear hv
              try simp only [Act.put, List.setIfInBounds_toArray, List.set_cons_zero, List.set_cons_succ]
              refine wpAnyX_one (i := 7) (o := _) rfl (by kernel_rfl) (fun K hK => ?_)
              go_simp
              (try have hPl := HP.out.lt)
              refine (pr3 (hS4.1) HT.out HN.out (tab_len _ _) HB.out (tpF_ok HN.out HB.out) hcp hcp2 hT3).mono ?_
              rintro ee v ⟨hbad, hgood, hv⟩
              obtain rfl := hbad HANY.out
              clear hbad hgood
              refine hK.out _ _ (fun _ => hS4.mono hv) (fun hS5 => ?_)
              clear hK K
              have hS5 := hS5 (by decide)
              replace HP := hid (HP.out.mono hv)
              replace HT := hid (HT.out.mono hv)
              clear hv
              try simp only [Act.put, List.setIfInBounds_toArray, List.set_cons_zero, List.set_cons_succ]
              refine wpAnyX_take (i := 8) (oi := _) (v := ?_) rfl (by kernel_rfl) (by kernel_rfl) (by kernel_rfl) (by kernel_rfl) (fun _ _ _ h => h) (Or.inl ⟨by rfl, ?_⟩) hS5 ?_
              rotate_left 1
              · (intro W8 hSw;  go_simp; (try with_reducible rfl))
              change wpAnyX _ _ _ _ _ _ _ _ (Act.put _ (some 28) _) _
              try simp only [Act.put, List.setIfInBounds_toArray, List.set_cons_zero, List.set_cons_succ]
              refine wpAnyX_take (i := 9) (oi := _) (v := ?_) rfl (by kernel_rfl) (by kernel_rfl) (by kernel_rfl) (by kernel_rfl) (fun _ _ _ h => h) (Or.inl ⟨by rfl, ?_⟩) hS5 ?_
              rotate_left 1
              · (intro W8 hSw;  go_simp; (try with_reducible rfl))
              change wpAnyX _ _ _ _ _ _ _ _ (Act.put _ (some 37) _) _
              try simp only [Act.put, List.setIfInBounds_toArray, List.set_cons_zero, List.set_cons_succ]
              refine wpAnyX_take (i := 10) (oi := _) (v := ?_) rfl (by kernel_rfl) (by kernel_rfl) (by kernel_rfl) (by kernel_rfl) (fun _ _ _ h => h) (Or.inl ⟨by rfl, ?_⟩) hS5 ?_
              rotate_left 1
              · (intro W8 hSw;  go_simp; (try with_reducible rfl))
              change wpAnyX _ _ _ _ _ _ _ _ (Act.put _ (some 38) _) _
              try simp only [Act.put, List.setIfInBounds_toArray, List.set_cons_zero, List.set_cons_succ]
              have k0 := HP.out.c 0 rfl
              have k1 := HP.out.c 1 rfl
              have k2 := HP.out.c 2 rfl
              have kf := HP.out.f
              have kl := HP.out.lt
              refine wpAnyX_one (i := 12) (o := _) rfl (by kernel_rfl) (fun K hK => ?_)
              go_simp
              refine hK.out _ _ (fun _ => by first | exact ((hS5.set hP1 hgl).set hP1 hgl).set hP1 hgl | exact hS4.alloc _) (fun hS6 => ?_)
              clear hK K
              have hS6 := hS6 (by decide)
              try simp only [Act.put, List.setIfInBounds_toArray, List.set_cons_zero, List.set_cons_succ]
              refine wpAnyX_one (i := 13) (o := _) rfl (by kernel_rfl) (fun K hK => ?_)
              go_simp
              refine hK.out _ _ (fun _ => hS6) (fun hS7 => ?_)
              clear hK K
              have hS7 := hS7 (by decide)
              try simp only [Act.put, List.setIfInBounds_toArray, List.set_cons_zero, List.set_cons_succ]
              refine wpAnyX_done (by kernel_rfl) ?_ _
              go_wp2_with (fail)
              go_meet
              exact ⟨⟨_, rfl, rfl⟩, hid hS7⟩
          · go_simp
            refine hK.out _ _ (fun _ => hS0.alloc _) (fun hS1 => ?_)
            clear hK K
            have hS1 := hS1 (by decide)
            (try have hGl := HG.out.lt)
            have hP1 := S9.newlt hS0
            have HP := hid (by first | exact S9.newbox hS1 | exact S9.newboxd hS1)
            try simp only [Act.put, List.setIfInBounds_toArray, List.set_cons_zero, List.set_cons_succ]
            refine wpAnyX_one (i := 2) (o := _) rfl (by kernel_rfl) (fun K hK => ?_)
            go_simp
            refine (cmx_i _).mono ?_
            rintro ee v ⟨rfl, hv⟩
            refine hK.out _ _ (fun _ => hS1.mono hv) (fun hS2 => ?_)
            clear hK K
            have hS2 := hS2 (by decide)
            replace HP := hid (HP.out.mono hv)
            clear hv
            try simp only [Act.put, List.setIfInBounds_toArray, List.set_cons_zero, List.set_cons_succ]
            refine wpAnyX_one (i := 5) (o := _) rfl (by kernel_rfl) (fun K hK => ?_)
            go_simp
            refine (tr_i (hS2.1) HN.out).mono ?_
            rintro ee v ⟨tv, rfl, hT, hv⟩
            obtain ⟨h0, cp2, rfl, hTR, hT1, hT2, hT3⟩ := hT.form9 (tab_len _ _)
            refine hK.out _ _ (fun _ => hS2.mono hv) (fun hS3 => ?_)
            clear hK K
            have hS3 := hS3 (by decide)
            replace HP := hid (HP.out.mono hv)
            have HT := hid hTR
            clear hT hTR
            clear hv
            try simp only [Act.put, List.setIfInBounds_toArray, List.set_cons_zero, List.set_cons_succ]
            refine wpAnyX_one (i := 6) (o := _) rfl (by kernel_rfl) (fun K hK => ?_)
            go_simp
            refine (cmx_i _).mono ?_
            rintro ee v ⟨rfl, hv⟩
            refine hK.out _ _ (fun _ => hS3.mono hv) (fun hS4 => ?_)
            clear hK K
            have hS4 := hS4 (by decide)
            replace HP := hid (HP.out.mono hv)
            replace HT := hid (HT.out.mono hv)
            clear hv
            try simp only [Act.put, List.setIfInBounds_toArray, List.set_cons_zero, List.set_cons_succ]
            refine wpAnyX_one (i := 7) (o := _) rfl (by kernel_rfl) (fun K hK => ?_)
            go_simp
            (try have hPl := HP.out.lt)
            refine (pr3 (hS4.1) HT.out HN.out (tab_len _ _) HB.out (tpF_ok HN.out HB.out) hcp hcp2 hT3).mono ?_
            rintro ee v ⟨hbad, hgood, hv⟩
            obtain rfl := hbad HANY.out
            clear hbad hgood
            refine hK.out _ _ (fun _ => hS4.mono hv) (fun hS5 => ?_)
            clear hK K
            have hS5 := hS5 (by decide)
            replace HP := hid (HP.out.mono hv)
            replace HT := hid (HT.out.mono hv)
            clear hv
            try simp only [Act.put, List.setIfInBounds_toArray, List.set_cons_zero, List.set_cons_succ]
            refine wpAnyX_take (i := 8) (oi := _) (v := ?_) rfl (by kernel_rfl) (by kernel_rfl) (by kernel_rfl) (by kernel_rfl) (fun _ _ _ h => h) (Or.inl ⟨by rfl, ?_⟩) hS5 ?_
            rotate_left 1
            · (intro W8 hSw;  go_simp; (try with_reducible rfl))
            change wpAnyX _ _ _ _ _ _ _ _ (Act.put _ (some 28) _) _
            try simp only [Act.put, List.setIfInBounds_toArray, List.set_cons_zero, List.set_cons_succ]
            refine wpAnyX_take (i := 9) (oi := _) (v := ?_) rfl (by kernel_rfl) (by kernel_rfl) (by kernel_rfl) (by kernel_rfl) (fun _ _ _ h => h) (Or.inl ⟨by rfl, ?_⟩) hS5 ?_
            rotate_left 1
            · (intro W8 hSw;  go_simp; (try with_reducible rfl))
            change wpAnyX _ _ _ _ _ _ _ _ (Act.put _ (some 37) _) _
            try simp only [Act.put, List.setIfInBounds_toArray, List.set_cons_zero, List.set_cons_succ]
            refine wpAnyX_take (i := 10) (oi := _) (v := ?_) rfl (by kernel_rfl) (by kernel_rfl) (by kernel_rfl) (by kernel_rfl) (fun _ _ _ h => h) (Or.inl ⟨by rfl, ?_⟩) hS5 ?_
            rotate_left 1
            · (intro W8 hSw;  go_simp; (try with_reducible rfl))
            change wpAnyX _ _ _ _ _ _ _ _ (Act.put _ (some 38) _) _
            try simp only [Act.put, List.setIfInBounds_toArray, List.set_cons_zero, List.set_cons_succ]
            have k0 := HP.out.c 0 rfl
            have k1 := HP.out.c 1 rfl
            have k2 := HP.out.c 2 rfl
            have kf := HP.out.f
            have kl := HP.out.lt
            refine wpAnyX_one (i := 12) (o := _) rfl (by kernel_rfl) (fun K hK => ?_)
            go_simp
            refine hK.out _ _ (fun _ => by first | exact ((hS5.set hP1 hgl).set hP1 hgl).set hP1 hgl | exact hS4.alloc _) (fun hS6 => ?_)
            clear hK K
            have hS6 := hS6 (by decide)
            try simp only [Act.put, List.setIfInBounds_toArray, List.set_cons_zero, List.set_cons_succ]
            refine wpAnyX_one (i := 13) (o := _) rfl (by kernel_rfl) (fun K hK => ?_)
            go_simp
            refine hK.out _ _ (fun _ => hS6) (fun hS7 => ?_)
            clear hK K
            have hS7 := hS7 (by decide)
            try simp only [Act.put, List.setIfInBounds_toArray, List.set_cons_zero, List.set_cons_succ]
            refine wpAnyX_done (by kernel_rfl) ?_ _
            go_wp2_with (fail)
            go_meet
            exact ⟨⟨_, rfl, rfl⟩, hid hS7⟩
        case rest =>
          obtain ⟨w8, rfl⟩ : ∃ w8, w8 = wc := ⟨_, rfl⟩
          obtain ⟨⟨b1, rfl, rfl⟩, HS⟩ := hcut
          have HV := hid HO.out
          rw [HANY.out] at HV
          go_upto_region 10 with (fail)
          refine wp_region_x (S9 w g0 cp xs) 1000 (by kernel_rfl) (S9.drew HS.out) (fun hS0 => ?_)
          refine wpAnyX_take (i := 0) (oi := _) (v := ?_) rfl (by kernel_rfl) (by kernel_rfl) (by kernel_rfl) (by kernel_rfl) (fun _ _ _ h => h) (Or.inl ⟨by rfl, ?_⟩) hS0 ?_
          rotate_left 1
          · (intro W8 hSw;  go_simp; (try with_reducible rfl))
          change wpAnyX _ _ _ _ _ _ _ _ (Act.put _ (some 39) _) _
          try simp only [Act.put, List.setIfInBounds_toArray, List.set_cons_zero, List.set_cons_succ]
          refine wpAnyX_take (i := 1) (oi := _) (v := ?_) rfl (by kernel_rfl) (by kernel_rfl) (by kernel_rfl) (by kernel_rfl) (fun _ _ _ h => h) (Or.inl ⟨by rfl, ?_⟩) hS0 ?_
          rotate_left 1
          · (intro W8 hSw;  go_simp; (try with_reducible rfl))
          change wpAnyX _ _ _ _ _ _ _ _ (Act.put _ (some 40) _) _
          try simp only [Act.put, List.setIfInBounds_toArray, List.set_cons_zero, List.set_cons_succ]
          refine wpAnyX_take (i := 2) (oi := _) (v := ?_) rfl (by kernel_rfl) (by kernel_rfl) (by kernel_rfl) (by kernel_rfl) (fun _ _ _ h => h) (Or.inl ⟨by rfl, ?_⟩) hS0 ?_
          rotate_left 1
          · (intro W8 hSw;  go_simp; (try with_reducible rfl))
          change wpAnyX _ _ _ _ _ _ _ _ (Act.put _ (some 41) _) _
          try simp only [Act.put, List.setIfInBounds_toArray, List.set_cons_zero, List.set_cons_succ]
          refine wpAnyX_take (i := 3) (oi := _) (v := undef) rfl (by kernel_rfl) (by kernel_rfl) (by kernel_rfl) (by kernel_rfl) (fun _ _ _ h => h) (Or.inr ⟨by rfl, rfl⟩) hS0 ?_
          change wpAnyX _ _ _ _ _ _ _ _ (Act.put _ (some 42) _) _
          try simp only [Act.put, List.setIfInBounds_toArray, List.set_cons_zero, List.set_cons_succ]
          refine wpAnyX_take (i := 4) (oi := _) (v := undef) rfl (by kernel_rfl) (by kernel_rfl) (by kernel_rfl) (by kernel_rfl) (fun _ _ _ h => h) (Or.inr ⟨by rfl, rfl⟩) hS0 ?_
          change wpAnyX _ _ _ _ _ _ _ _ (Act.put _ (some 43) _) _
          try simp only [Act.put, List.setIfInBounds_toArray, List.set_cons_zero, List.set_cons_succ]
          refine wpAnyX_take (i := 5) (oi := _) (v := undef) rfl (by kernel_rfl) (by kernel_rfl) (by kernel_rfl) (by kernel_rfl) (fun _ _ _ h => h) (Or.inr ⟨by rfl, rfl⟩) hS0 ?_
          change wpAnyX _ _ _ _ _ _ _ _ (Act.put _ (some 44) _) _
          try simp only [Act.put, List.setIfInBounds_toArray, List.set_cons_zero, List.set_cons_succ]
          refine wpAnyX_take (i := 6) (oi := _) (v := undef) rfl (by kernel_rfl) (by kernel_rfl) (by kernel_rfl) (by kernel_rfl) (fun _ _ _ h => h) (Or.inr ⟨by rfl, rfl⟩) hS0 ?_
          change wpAnyX _ _ _ _ _ _ _ _ (Act.put _ (some 45) _) _
          try simp only [Act.put, List.setIfInBounds_toArray, List.set_cons_zero, List.set_cons_succ]
          refine wpAnyX_take (i := 7) (oi := _) (v := undef) rfl (by kernel_rfl) (by kernel_rfl) (by kernel_rfl) (by kernel_rfl) (fun _ _ _ h => h) (Or.inr ⟨by rfl, rfl⟩) hS0 ?_
          change wpAnyX _ _ _ _ _ _ _ _ (Act.put _ (some 46) _) _
          try simp only [Act.put, List.setIfInBounds_toArray, List.set_cons_zero, List.set_cons_succ]
          refine wpAnyX_take (i := 8) (oi := _) (v := undef) rfl (by kernel_rfl) (by kernel_rfl) (by kernel_rfl) (by kernel_rfl) (fun _ _ _ h => h) (Or.inr ⟨by rfl, rfl⟩) hS0 ?_
          change wpAnyX _ _ _ _ _ _ _ _ (Act.put _ (some 47) _) _
          try simp only [Act.put, List.setIfInBounds_toArray, List.set_cons_zero, List.set_cons_succ]
          refine wpAnyX_take (i := 9) (oi := _) (v := ?_) rfl (by kernel_rfl) (by kernel_rfl) (by kernel_rfl) (by kernel_rfl) (fun _ _ _ h => h) (Or.inl ⟨by rfl, ?_⟩) hS0 ?_
          rotate_left 1
          · (intro W8 hSw;  go_simp; (try with_reducible rfl))
          change wpAnyX _ _ _ _ _ _ _ _ (Act.put _ (some 48) _) _
          try simp only [Act.put, List.setIfInBounds_toArray, List.set_cons_zero, List.set_cons_succ]
          refine wpAnyX_done (by kernel_rfl) ?_ _
          go_wp2_with (fail)
          go_ret
          exact ⟨by rw [HV.out]; rfl, (S9.drew HS.out).2.2⟩
    | succ m =>
      have hlt : j < 9 := by omega
      have hlt2 : (j : Int) < 9 := by omega
      obtain ⟨x, hx⟩ : ∃ x, xs[j]? = some x := ⟨_, List.getElem?_eq_getElem (by rw [HN.out]; exact hlt)⟩
      have hwl := HS.out.2.1.lt
      obtain ⟨g, o, he, hC⟩ := HS.out.1 j x hx
      cases he
      obtain ⟨q0, q1, q2, q3, q4⟩ := hC
      simp only [Nat.zero_add] at q0 q1 q2 q3 q4
      have HX := hid hx
      clear hx
      have kb := HS.out.2.1.c 0 rfl
      have hBr := HS.out.2.2
      go_upto_region 6 with (fail)
      obtain ⟨w5, hw5⟩ : ∃ w5 : World, w5 = wr.alloc (.cells #[.int .i64 x.a, .int .i64 x.b, .int .i64 x.c, .int .i64 x.d, .int .i64 x.e] 99) := ⟨_, rfl⟩
      have HS5 : Hid (S9 w g0 cp xs w5) := hid (by rw [hw5]; exact HS.out.alloc _)
      have HX5 : Hid (Bx w5 wr.heap.size 99 #[.int .i64 x.a, .int .i64 x.b, .int .i64 x.c, .int .i64 x.d, .int .i64 x.e]) := hid (by rw [hw5]; exact Bx.new rfl)
      rw [← hw5]
      clear hw5 q0 q1 q2 q3 q4 kb HS
      have x0 := HX5.out.c 0 rfl
      have x1 := HX5.out.c 1 rfl
      have x2 := HX5.out.c 2 rfl
      have x3 := HX5.out.c 3 rfl
      have x4 := HX5.out.c 4 rfl
      cases hok : x.ok
      · have HK := hid hok
        have HRX : Hid ((x.ok && rl5 x) = false) := by show _ = _; rw [hok]; rfl
        clear hok
        go_wp2_with ((go_at_call 71; ((with_reducible refine (id_f (x := x) HK.out _).mono ?_); rintro ee w6 ⟨rfl, hb6⟩)))
        go_ret
        exact ⟨by rw [okBl_c (allR_not HX.out HRX.out)]; rfl, (HS5.out.mono hb6).2.2⟩
      · have HK := hid hok
        clear hok
        go_wp2_with (fail)
        refine (id_t (x := x) HK.out _).mono ?_
        rintro ee w6 ⟨rfl, hb6⟩
        replace HS5 := hid (HS5.out.mono hb6)
        replace HX5 := hid (HX5.out.mono hb6)
        clear x0 x1 x2 x3 x4 hb6
        have x0 := HX5.out.c 0 rfl
        have x1 := HX5.out.c 1 rfl
        have x2 := HX5.out.c 2 rfl
        have x3 := HX5.out.c 3 rfl
        have x4 := HX5.out.c 4 rfl
        go_wp2_with (fail)
        refine (ir_i (x := x) HK.out _).mono ?_
        rintro ee w7 ⟨rfl, hb7⟩
        replace HS5 := hid (HS5.out.mono hb7)
        clear x0 x1 x2 x3 x4 HX5 hb7
        cases hrl : rl5 x
        · have HRX : Hid ((x.ok && rl5 x) = false) := by show _ = _; rw [hrl]; simp
          clear hrl
          go_wp2_with (fail)
          go_ret
          exact ⟨by rw [okBl_c (allR_not HX.out HRX.out)]; rfl, HS5.out.2.2⟩
        · have HRX : Hid (allR (xs.take (j + 1)) = true) := hid (takeR HX.out HR.out (by rw [HK.out, hrl]; rfl))
          clear hrl
          go_wp2_with (fail)
          go_roundg m
          case measure => omega
          case rel => exact ⟨j + 1, by omega, by go_num, HRX, HS5⟩

end Go.Proofs.Ytofclfgaekjonaa
