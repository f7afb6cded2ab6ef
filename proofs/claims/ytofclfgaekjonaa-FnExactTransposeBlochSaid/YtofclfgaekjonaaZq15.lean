/- MuP -/
import Derived.Test.YtofclfgaekjonaaZq13
namespace Go.Proofs.Ytofclfgaekjonaa
open Go.RowKit RM
set_option linter.unusedVariables false
set_option linter.unusedSimpArgs false
attribute [local irreducible] World.setCell

section
variable {P : Program} {ops : Array Oper} {Q : Exit → Act → World → Prop} {md : Region.Mode} {S : World → Prop} {L : Nat}
/-- Three may come up. -/
theorem wpAnyX_three {i j k : Nat} {oi oj ok : Oper} {fuel : Nat} {listed : Array Bool} {a : Act} {w : World} (hi : ops[i]? = some oi) (hj : ops[j]? = some oj) (hk : ops[k]? = some ok) (hr : Region.ready md ops listed = [i, j, k])
    (h1 : ∀ K' : Act → World → Prop, Shut (∀ a w, (i ≠ L → S w) → ((i ≠ L → S w) → wpAnyX P md ops Q S L fuel (listed.setIfInBounds i true) a w) → K' a w) → if Region.wanted oi (yielded ops a.tmps) = true then Oper.wp P oi a w K' Q else K' (a.put oi.dst undef) w)
    (h2 : ∀ K' : Act → World → Prop, Shut (∀ a w, (j ≠ L → S w) → ((j ≠ L → S w) → wpAnyX P md ops Q S L fuel (listed.setIfInBounds j true) a w) → K' a w) → if Region.wanted oj (yielded ops a.tmps) = true then Oper.wp P oj a w K' Q else K' (a.put oj.dst undef) w)
    (h3 : ∀ K' : Act → World → Prop, Shut (∀ a w, (k ≠ L → S w) → ((k ≠ L → S w) → wpAnyX P md ops Q S L fuel (listed.setIfInBounds k true) a w) → K' a w) → if Region.wanted ok (yielded ops a.tmps) = true then Oper.wp P ok a w K' Q else K' (a.put ok.dst undef) w) :
    wpAnyX P md ops Q S L (fuel + 1) listed a w := by
  refine ⟨fun h0 => (by rw [hr] at h0; cases h0), fun q hq => ?_⟩
  rw [hr] at hq
  simp only [List.mem_cons, List.not_mem_nil, or_false] at hq
  rcases hq with rfl | rfl | rfl
  · exact wpOp_step hi (fun K' hK => h1 K' (fun a w hS hW => hK a w ⟨hS, hW hS⟩))
  · exact wpOp_step hj (fun K' hK => h2 K' (fun a w hS hW => hK a w ⟨hS, hW hS⟩))
  · exact wpOp_step hk (fun K' hK => h3 K' (fun a w hS hW => hK a w ⟨hS, hW hS⟩))
end
theorem z5_of {x : D5} (h0 : x.a = 0) (h1 : x.b = 0) (h2 : x.c = 0) (h3 : x.d = 0) (h4 : x.e = 0) : x = z5 := by
  obtain ⟨a, b, c, d, e⟩ := x
  dsimp only at h0 h1 h2 h3 h4
  subst h0 h1 h2 h3 h4; rfl
theorem allB_tab {N : Nat} {F : Nat → D5} (h : ∀ q, q < N → (F q).ok = true) : allB (tab N F) = true := by
  unfold allB
  rw [List.all_eq_true]
  intro x hx
  obtain ⟨q, hq⟩ := List.mem_iff_getElem?.1 hx
  have hl : q < N := by have := (List.getElem?_eq_some_iff.1 hq).1; rwa [tab_len] at this
  rw [tab_get hl] at hq
  simp only [Option.some.injEq] at hq
  rw [← hq]; exact h q hl
theorem undrew {W W' : World} (h : Below W.drew.heap.size W.drew W') : Below W.heap.size W W' := ⟨h.os, h.tape, h.output, h.size, h.block⟩
theorem Bk.monoB {W W' : World} {g : Nat} {t : TypeId} {xs : List D5} (h : Bk W g t xs) (hb : Below W.heap.size W W') : Bk W' g t xs := h.mono hb
set_option maxRecDepth 100000 in
set_option maxHeartbeats 4000000 in
theorem rw_q {r : Int} {C i s g n cp : Nat} {w : World} (hs : (i : Int) * (C : Int) = (s : Int)) (he : ((i : Int) + 1) * (C : Int) = ((s + C : Nat) : Int)) (h1 : s + C ≤ cp) (h2 : s + C ≤ 1048576) (h3 : 1 ≤ C) (h4 : i ≤ 1048576) :
    Calls Try.prog 99 #[mv r C (some ⟨g, 0, none⟩) n cp, .int .i64 (i : Int)] w fun ee w' => ee = .returned (.slice (some ⟨g, s * 5, none⟩) C C) ∧ Below w.heap.size w w' := by
  have b0 : (s : Int) + C ≤ cp := by omega
  have b1 : (s : Int) + C ≤ 1048576 := by omega
  have b2 : (1 : Int) ≤ C := by omega
  have b3 : (s : Int) ≤ 1048576 := by omega
  have b4 : ¬ (cp = s) := by omega
  have b6 : s + C - s = C := by omega
  have b5 : (i : Int) ≤ 1048576 := by omega
  simp only [Int.natCast_add] at he
  go_enter Try.func99, Try.ntmps99
  go_wp2_with (fail)
  go_quiet (fail)
  go_wp2_with (fail)
  go_ret
  refine ⟨by show Ending.returned (Value.slice _ (s + C - s) (s + C - s)) = _; rw [b6], ?_⟩
  (repeat' (first | (with_reducible exact Below.refl _ _) | (with_reducible assumption) | (with_reducible refine Below.alloc ?_ ?_ _) | (with_reducible refine Below.drew ?_) | (with_reducible refine below_drewN ?_ _) | (with_reducible refine Below.setCell ?_ ?_ _) | (with_reducible refine chain ?_ (by assumption) ?_) | omega | (simp; done) | (simp; omega)))

set_option maxRecDepth 100000 in
set_option maxHeartbeats 16000000 in
theorem pr_i {ra ca cb : Nat} {g0 h0 n m cp cp' : Nat} {xs ys : List D5} {w : World} (hA : Rd w (some ⟨g0, 0, none⟩) xs) (hB : Rd w (some ⟨h0, 0, none⟩) ys) (hn : xs.length = n) (hm : ys.length = m) (hok : allB xs = true) (hok2 : allB ys = true) (hnn : n = ra * ca) (hmm : m = ca * cb) (a1 : 1 ≤ ra) (a2 : ra ≤ 32) (a3 : 1 ≤ ca) (a4 : ca ≤ 32) (b3 : 1 ≤ cb) (b4 : cb ≤ 32) {N : Nat} (hN9 : N = ra * cb) (hc1 : n ≤ cp) (hc2 : cp ≤ 1048576) (hc3 : m ≤ cp') (hc4 : m ≤ 1048576) :
    Calls Try.prog 73 #[mv (ra : Int) (ca : Int) (some ⟨g0, 0, none⟩) n cp, mv (ca : Int) (cb : Int) (some ⟨h0, 0, none⟩) m cp'] w fun ee w' => IR w w' ee (ra : Int) (cb : Int) N (tab N (mmF ca cb xs ys)) (anyB N (mmG ca cb xs ys)) := by
  have a5 : n ≤ 1024 := by rw [hnn]; exact Nat.mul_le_mul a2 a4
  have b5 : m ≤ 1024 := by rw [hmm]; exact Nat.mul_le_mul a4 b4
  have n32 : N ≤ 1024 := by rw [hN9]; exact Nat.mul_le_mul a2 b4
  have hmk := mkD cb (by omega)
  have hs5 := size5
  have HS5 := hid hs5
  have EN := hid hN9
  clear hN9 hs5
  have HA := hid hA
  have HB := hid hB
  have HN := hid hn
  have HM := hid hm
  have HO := hid hok
  have HP := hid hok2
  have HNN := hid hnn
  have HMM := hid hmm
  clear hA hB hn hm hok hok2 hnn hmm
  have h0A : g0 < w.heap.size := by
    obtain ⟨x, hx⟩ : ∃ x, xs[0]? = some x := ⟨_, List.getElem?_eq_getElem (by rw [HN.out, HNN.out]; exact Nat.mul_pos (by omega) (by omega))⟩
    exact (HA.out.cx hx).lt
  have h0B : h0 < w.heap.size := by
    obtain ⟨x, hx⟩ : ∃ x, ys[0]? = some x := ⟨_, List.getElem?_eq_getElem (by rw [HM.out, HMM.out]; exact Nat.mul_pos (by omega) (by omega))⟩
    exact (HB.out.cx hx).lt
  go_enter Try.func73, Try.ntmps73
  go_upto_region 1 with (fail)
  obtain ⟨w2, hW⟩ : ∃ w2 : World, w2 = ((w.alloc (.cells #[.int .i64 (ra : Int), .int .i64 (ca : Int), .slice (some ⟨g0, 0, none⟩) n cp] 30)).alloc (.cells #[.int .i64 (ca : Int), .int .i64 (cb : Int), .slice (some ⟨h0, 0, none⟩) m cp'] 30)).alloc (.cells #[.int .i64 0, .int .i64 0, .slice none 0 0] 30) := ⟨_, rfl⟩
  have hw2 : Below w.heap.size w w2 := by rw [hW]; exact (((Below.refl _ _).alloc (Nat.le_refl _) _).alloc (by simp) _).alloc (by simp; omega) _
  have hz2 : w.heap.size + 1 + 1 + 1 ≤ w2.heap.size := by rw [hW]; simp
  have Ya2 : Hid (Bx w2 w.heap.size 30 #[.int .i64 (ra : Int), .int .i64 (ca : Int), .slice (some ⟨g0, 0, none⟩) n cp]) := by rw [hW]; exact ((Bx.new rfl).alloc _).alloc _
  have Yb2 : Hid (Bx w2 (w.heap.size + 1) 30 #[.int .i64 (ca : Int), .int .i64 (cb : Int), .slice (some ⟨h0, 0, none⟩) m cp']) := by rw [hW]; exact (Bx.new (by simp)).alloc _
  have Yz2 : Hid (Bx w2 (w.heap.size + 1 + 1) 30 #[.int .i64 0, .int .i64 0, .slice none 0 0]) := by rw [hW]; exact Bx.new (by simp)
  rw [← hW]
  clear hW
  have ca0 := Ya2.out.c 0 rfl
  have ca1 := Ya2.out.c 1 rfl
  have ca2 := Ya2.out.c 2 rfl
  have fa := Ya2.out.f
  have la := Ya2.out.lt
  have cb0 := Yb2.out.c 0 rfl
  have cb1 := Yb2.out.c 1 rfl
  have cb2 := Yb2.out.c 2 rfl
  have fb := Yb2.out.f
  have lb := Yb2.out.lt
  have cz0 := Yz2.out.c 0 rfl
  have cz1 := Yz2.out.c 1 rfl
  have cz2 := Yz2.out.c 2 rfl
  have fz := Yz2.out.f
  have lz := Yz2.out.lt
  have hBq := hw2.size
  go_cut [6, 7] (fun s6 s7 wx => ∃ bo gz gm : Nat, s6 = .pointer (some ⟨bo, 0, none⟩) ∧ s7 = .slice (some ⟨gm, 0, none⟩) cb cb ∧ Hid (Bx wx bo 30 #[.int .i64 (ra : Int), .int .i64 (cb : Int), .slice (some ⟨gz, 0, none⟩) N N]) ∧ Hid (Bk wx gz 99 (List.replicate N z5)) ∧ Hid (Bk wx gm 99 (List.replicate cb z5)) ∧ Hid (bo ≠ gz ∧ bo ≠ gm ∧ gz ≠ gm ∧ w2.heap.size ≤ bo ∧ w2.heap.size ≤ gz ∧ w2.heap.size ≤ gm) ∧ Hid (Below w2.heap.size w2 wx))
  case first =>
    have yca0 : w2.drew.cell? ⟨w.heap.size, 0, none⟩ = some (.int .i64 (ra : Int)) := ca0
    have ycb1 : w2.drew.cell? ⟨w.heap.size + 1, 1, none⟩ = some (.int .i64 (cb : Int)) := cb1
    refine wp_region_x (fun w' => w'.cell? ⟨w.heap.size, 0, none⟩ = some (.int .i64 (ra : Int)) ∧ w'.cell? ⟨w.heap.size + 1, 1, none⟩ = some (.int .i64 (cb : Int))) 1000 (by kernel_rfl) ⟨yca0, ycb1⟩ (fun hS0 => ?_)
    refine wpAnyX_take (i := 0) (oi := _) (v := ?_) rfl (by kernel_rfl) (by kernel_rfl) (by kernel_rfl) (by kernel_rfl) (fun _ _ _ h => h) (Or.inl ⟨by rfl, ?_⟩) hS0 ?_
    rotate_left 1
    · (intro w hSw; (try dsimp only at hSw); go_simp; (try with_reducible rfl))
    try simp only [Act.put, List.setIfInBounds_toArray, List.set_cons_zero, List.set_cons_succ]
    refine wpAnyX_take (i := 1) (oi := _) (v := ?_) rfl (by kernel_rfl) (by kernel_rfl) (by kernel_rfl) (by kernel_rfl) (fun _ _ _ h => h) (Or.inl ⟨by rfl, ?_⟩) hS0 ?_
    rotate_left 1
    · (intro w hSw; (try dsimp only at hSw); go_simp; (try with_reducible rfl))
    try simp only [Act.put, List.setIfInBounds_toArray, List.set_cons_zero, List.set_cons_succ]
    refine wpAnyX_take (i := 2) (oi := _) (v := ?_) rfl (by kernel_rfl) (by kernel_rfl) (by kernel_rfl) (by kernel_rfl) (fun _ _ _ h => h) (Or.inl ⟨by rfl, ?_⟩) hS0 ?_
    rotate_left 1
    · (intro w hSw; (try dsimp only at hSw); go_simp; (try with_reducible rfl))
    try simp only [Act.put, List.setIfInBounds_toArray, List.set_cons_zero, List.set_cons_succ]
    refine wpAnyX_take (i := 3) (oi := _) (v := ?_) rfl (by kernel_rfl) (by kernel_rfl) (by kernel_rfl) (by kernel_rfl) (fun _ _ _ h => h) (Or.inl ⟨by rfl, ?_⟩) hS0 ?_
    rotate_left 1
    · (intro w hSw; (try dsimp only at hSw); go_simp; (try with_reducible rfl))
    try simp only [Act.put, List.setIfInBounds_toArray, List.set_cons_zero, List.set_cons_succ]
    refine wpAnyX_take (i := 5) (oi := _) (v := ?_) rfl (by kernel_rfl) (by kernel_rfl) (by kernel_rfl) (by kernel_rfl) (fun _ _ _ h => h) (Or.inl ⟨by rfl, ?_⟩) hS0 ?_
    rotate_left 1
    · (intro w hSw; (try dsimp only at hSw); go_simp; (try with_reducible rfl))
    try simp only [Act.put, List.setIfInBounds_toArray, List.set_cons_zero, List.set_cons_succ]
    refine wpAnyX_take (i := 6) (oi := _) (v := ?_) rfl (by kernel_rfl) (by kernel_rfl) (by kernel_rfl) (by kernel_rfl) (fun _ _ _ h => h) (Or.inl ⟨by rfl, ?_⟩) hS0 ?_
    rotate_left 1
    · (intro w hSw; (try dsimp only at hSw); go_simp; (try with_reducible rfl))
    try simp only [Act.put, List.setIfInBounds_toArray, List.set_cons_zero, List.set_cons_succ]
    refine wpAnyX_three (i := 4) (j := 7) (k := 8) (oi := _) (oj := _) (ok := _) rfl rfl rfl (by kernel_rfl) (fun K hK => ?_) (fun K hK => ?_) (fun K hK => ?_)
    · go_simp
      refine (zm (r := ra) (c := cb) (n := N) (by rw [EN.out]; simp) n32).mono ?_
      rintro ee vz ⟨gz, rfl, hBz, hgz, hbz0⟩
      have hbz := undrew hbz0
      have hzz := hbz.size
      have hzl := hBz.lt
      (try simp only [World.size_alloc, World.size_drew] at hgz hzz)
      refine hK.out _ _ (fun _ => ?_) (fun hS1 => ?_)
      · exact ⟨kc hbz0 hS0.1, kc hbz0 hS0.2⟩
      clear hK K
      have hS1 := hS1 (by decide)
      try simp only [Act.put, List.setIfInBounds_toArray, List.set_cons_zero, List.set_cons_succ]
      refine wpAnyX_two (i := 7) (j := 8) (oi := _) (oj := _) rfl rfl (by kernel_rfl) (fun K hK => ?_) (fun K hK => ?_)
      · go_simp
        refine hK.out _ _ (fun _ => ?_) (fun hS2 => ?_)
        · first | exact ⟨kal hS1.1, kal hS1.2⟩ | exact ⟨kald hS1.1, kald hS1.2⟩
        clear hK K
        have hS2 := hS2 (by decide)
        try simp only [Act.put, List.setIfInBounds_toArray, List.set_cons_zero, List.set_cons_succ]
        refine wpAnyX_one (i := 8) (o := _) rfl (by kernel_rfl) (fun K hK => ?_)
        go_simp
        refine hK.out _ _ (fun _ => ?_) (fun hS3 => ?_)
        · first | exact ⟨kal hS2.1, kal hS2.2⟩ | exact ⟨kald hS2.1, kald hS2.2⟩
        clear hK K
        have hS3 := hS3 (by decide)
        try simp only [Act.put, List.setIfInBounds_toArray, List.set_cons_zero, List.set_cons_succ]
        refine wpAnyX_one (i := 9) (o := _) rfl (by kernel_rfl) (fun K hK => ?_)
        go_simp
        refine hK.out _ _ (fun _ => ?_) (fun hS4 => ?_)
        · first | exact ⟨kst3 (by omega) hS3.1, kst3 (by omega) hS3.2⟩ | exact ⟨kre (by omega) hS3.1, kre (by omega) hS3.2⟩ | exact ⟨kal hS3.1, kal hS3.2⟩ | exact ⟨kal hS2.1, kal hS2.2⟩ | exact ⟨kal (kre (by omega) hS2.1), kal (kre (by omega) hS2.2)⟩
        clear hK K
        have hS4 := hS4 (by decide)
        try simp only [Act.put, List.setIfInBounds_toArray, List.set_cons_zero, List.set_cons_succ]
        refine wpAnyX_take (i := 10) (oi := _) (v := ?_) rfl (by kernel_rfl) (by kernel_rfl) (by kernel_rfl) (by kernel_rfl) (fun _ _ _ h => h) (Or.inl ⟨by rfl, ?_⟩) hS4 ?_
        rotate_left 1
        · (intro w hSw; (try dsimp only at hSw); go_simp; (try with_reducible rfl))
        change wpAnyX _ _ _ _ _ _ _ _ (Act.put _ (some 7) _) _
        try simp only [Act.put, List.setIfInBounds_toArray, List.set_cons_zero, List.set_cons_succ]
        refine wpAnyX_done (by kernel_rfl) ?_ _
        go_wp2_with (fail)
        go_meet
        refine ⟨_, gz, _, rfl, rfl, ?_, ?_, ?_, ?_, ?_⟩
        · show Bx _ _ _ _
          (first | exact (Bx.set (i := 2) (u := .slice (some ⟨gz, 0, none⟩) N N) (Bx.set (i := 1) (u := .int .i64 (cb : Int)) (Bx.set (i := 0) (u := .int .i64 (ra : Int)) (Bx.new (cs := #[.int .i64 0, .int .i64 0, .slice none 0 0]) (by first | rfl | (simp; done))) rfl) rfl) rfl) | exact (Bx.new (cs := #[.int .i64 (ra : Int), .int .i64 (cb : Int), .slice (some ⟨gz, 0, none⟩) N N]) (by first | rfl | (simp; done))))
        · show Bk _ _ _ _
          (first | exact (Bk.far (Bk.far (Bk.far (Bk.alloc (Bk.alloc hBz _) _) (by (try dsimp only); omega) _) (by (try dsimp only); omega) _) (by (try dsimp only); omega) _) | exact (Bk.alloc (Bk.alloc hBz _) _))
        · show Bk _ _ _ _
          (first | exact (Bk.far (Bk.far (Bk.far (Bk.alloc (Bk.made' (by first | rfl | (simp; done))) _) (by (try dsimp only); omega) _) (by (try dsimp only); omega) _) (by (try dsimp only); omega) _) | exact (Bk.alloc (Bk.made' (by first | rfl | (simp; done))) _))
        · show _ ∧ _
          refine ⟨?_, ?_, ?_, ?_, ?_, ?_⟩ <;> omega
        · show Below _ _ _
          (repeat' (first | (with_reducible exact Below.refl _ _) | (with_reducible assumption) | (with_reducible refine Below.alloc ?_ ?_ _) | (with_reducible refine Below.drew ?_) | (with_reducible refine below_drewN ?_ _) | (with_reducible refine Below.setCell ?_ ?_ _) | (with_reducible refine chain ?_ (by assumption) ?_) | omega | (simp; done) | (simp; omega)))
      · go_simp
        refine hK.out _ _ (fun _ => ?_) (fun hS2 => ?_)
        · first | exact ⟨kal hS1.1, kal hS1.2⟩ | exact ⟨kald hS1.1, kald hS1.2⟩
        clear hK K
        have hS2 := hS2 (by decide)
        try simp only [Act.put, List.setIfInBounds_toArray, List.set_cons_zero, List.set_cons_succ]
        refine wpAnyX_two (i := 7) (j := 9) (oi := _) (oj := _) rfl rfl (by kernel_rfl) (fun K hK => ?_) (fun K hK => ?_)
        · go_simp
          refine hK.out _ _ (fun _ => ?_) (fun hS3 => ?_)
          · first | exact ⟨kal hS2.1, kal hS2.2⟩ | exact ⟨kald hS2.1, kald hS2.2⟩
          clear hK K
          have hS3 := hS3 (by decide)
          try simp only [Act.put, List.setIfInBounds_toArray, List.set_cons_zero, List.set_cons_succ]
          refine wpAnyX_one (i := 9) (o := _) rfl (by kernel_rfl) (fun K hK => ?_)
          go_simp
          refine hK.out _ _ (fun _ => ?_) (fun hS4 => ?_)
          · first | exact ⟨kst3 (by omega) hS3.1, kst3 (by omega) hS3.2⟩ | exact ⟨kre (by omega) hS3.1, kre (by omega) hS3.2⟩ | exact ⟨kal hS3.1, kal hS3.2⟩ | exact ⟨kal hS2.1, kal hS2.2⟩ | exact ⟨kal (kre (by omega) hS2.1), kal (kre (by omega) hS2.2)⟩
          clear hK K
          have hS4 := hS4 (by decide)
          try simp only [Act.put, List.setIfInBounds_toArray, List.set_cons_zero, List.set_cons_succ]
          refine wpAnyX_take (i := 10) (oi := _) (v := ?_) rfl (by kernel_rfl) (by kernel_rfl) (by kernel_rfl) (by kernel_rfl) (fun _ _ _ h => h) (Or.inl ⟨by rfl, ?_⟩) hS4 ?_
          rotate_left 1
          · (intro w hSw; (try dsimp only at hSw); go_simp; (try with_reducible rfl))
          change wpAnyX _ _ _ _ _ _ _ _ (Act.put _ (some 7) _) _
          try simp only [Act.put, List.setIfInBounds_toArray, List.set_cons_zero, List.set_cons_succ]
          refine wpAnyX_done (by kernel_rfl) ?_ _
          go_wp2_with (fail)
          go_meet
          refine ⟨_, gz, _, rfl, rfl, ?_, ?_, ?_, ?_, ?_⟩
          · show Bx _ _ _ _
            (first | exact (Bx.set (i := 2) (u := .slice (some ⟨gz, 0, none⟩) N N) (Bx.set (i := 1) (u := .int .i64 (cb : Int)) (Bx.set (i := 0) (u := .int .i64 (ra : Int)) (Bx.alloc (Bx.new (cs := #[.int .i64 0, .int .i64 0, .slice none 0 0]) (by first | rfl | (simp; done))) _) rfl) rfl) rfl) | exact (Bx.alloc (Bx.new (cs := #[.int .i64 (ra : Int), .int .i64 (cb : Int), .slice (some ⟨gz, 0, none⟩) N N]) (by first | rfl | (simp; done))) _))
          · show Bk _ _ _ _
            (first | exact (Bk.far (Bk.far (Bk.far (Bk.alloc (Bk.alloc hBz _) _) (by (try dsimp only); omega) _) (by (try dsimp only); omega) _) (by (try dsimp only); omega) _) | exact (Bk.alloc (Bk.alloc hBz _) _))
          · show Bk _ _ _ _
            (first | exact (Bk.far (Bk.far (Bk.far (Bk.made' (by first | rfl | (simp; done))) (by (try dsimp only); omega) _) (by (try dsimp only); omega) _) (by (try dsimp only); omega) _) | exact (Bk.made' (by first | rfl | (simp; done))))
          · show _ ∧ _
            refine ⟨?_, ?_, ?_, ?_, ?_, ?_⟩ <;> omega
          · show Below _ _ _
            (repeat' (first | (with_reducible exact Below.refl _ _) | (with_reducible assumption) | (with_reducible refine Below.alloc ?_ ?_ _) | (with_reducible refine Below.drew ?_) | (with_reducible refine below_drewN ?_ _) | (with_reducible refine Below.setCell ?_ ?_ _) | (with_reducible refine chain ?_ (by assumption) ?_) | omega | (simp; done) | (simp; omega)))
        · go_simp
          refine hK.out _ _ (fun _ => ?_) (fun hS3 => ?_)
          · first | exact ⟨kst3 (by omega) hS2.1, kst3 (by omega) hS2.2⟩ | exact ⟨kre (by omega) hS2.1, kre (by omega) hS2.2⟩ | exact ⟨kal hS2.1, kal hS2.2⟩ | exact ⟨kal hS1.1, kal hS1.2⟩ | exact ⟨kal (kre (by omega) hS1.1), kal (kre (by omega) hS1.2)⟩
          clear hK K
          have hS3 := hS3 (by decide)
          try simp only [Act.put, List.setIfInBounds_toArray, List.set_cons_zero, List.set_cons_succ]
          refine wpAnyX_one (i := 7) (o := _) rfl (by kernel_rfl) (fun K hK => ?_)
          go_simp
          refine hK.out _ _ (fun _ => ?_) (fun hS4 => ?_)
          · first | exact ⟨kal hS3.1, kal hS3.2⟩ | exact ⟨kald hS3.1, kald hS3.2⟩
          clear hK K
          have hS4 := hS4 (by decide)
          try simp only [Act.put, List.setIfInBounds_toArray, List.set_cons_zero, List.set_cons_succ]
          refine wpAnyX_take (i := 10) (oi := _) (v := ?_) rfl (by kernel_rfl) (by kernel_rfl) (by kernel_rfl) (by kernel_rfl) (fun _ _ _ h => h) (Or.inl ⟨by rfl, ?_⟩) hS4 ?_
          rotate_left 1
          · (intro w hSw; (try dsimp only at hSw); go_simp; (try with_reducible rfl))
          change wpAnyX _ _ _ _ _ _ _ _ (Act.put _ (some 7) _) _
          try simp only [Act.put, List.setIfInBounds_toArray, List.set_cons_zero, List.set_cons_succ]
          refine wpAnyX_done (by kernel_rfl) ?_ _
          go_wp2_with (fail)
          go_meet
          refine ⟨_, gz, _, rfl, rfl, ?_, ?_, ?_, ?_, ?_⟩
          · show Bx _ _ _ _
            (first | exact (Bx.alloc (Bx.set (i := 2) (u := .slice (some ⟨gz, 0, none⟩) N N) (Bx.set (i := 1) (u := .int .i64 (cb : Int)) (Bx.set (i := 0) (u := .int .i64 (ra : Int)) (Bx.new (cs := #[.int .i64 0, .int .i64 0, .slice none 0 0]) (by first | rfl | (simp; done))) rfl) rfl) rfl) _) | exact (Bx.alloc (Bx.new (cs := #[.int .i64 (ra : Int), .int .i64 (cb : Int), .slice (some ⟨gz, 0, none⟩) N N]) (by first | rfl | (simp; done))) _))
          · show Bk _ _ _ _
            (first | exact (Bk.alloc (Bk.far (Bk.far (Bk.far (Bk.alloc hBz _) (by (try dsimp only); omega) _) (by (try dsimp only); omega) _) (by (try dsimp only); omega) _) _) | exact (Bk.alloc (Bk.alloc hBz _) _))
          · show Bk _ _ _ _
            (first | exact (Bk.made' (by first | rfl | (simp; done))) | exact (Bk.made' (by first | rfl | (simp; done))))
          · show _ ∧ _
            refine ⟨?_, ?_, ?_, ?_, ?_, ?_⟩ <;> omega
          · show Below _ _ _
            (repeat' (first | (with_reducible exact Below.refl _ _) | (with_reducible assumption) | (with_reducible refine Below.alloc ?_ ?_ _) | (with_reducible refine Below.drew ?_) | (with_reducible refine below_drewN ?_ _) | (with_reducible refine Below.setCell ?_ ?_ _) | (with_reducible refine chain ?_ (by assumption) ?_) | omega | (simp; done) | (simp; omega)))
    · go_simp
      refine hK.out _ _ (fun _ => ?_) (fun hS1 => ?_)
      · first | exact ⟨kal hS0.1, kal hS0.2⟩ | exact ⟨kald hS0.1, kald hS0.2⟩
      clear hK K
      have hS1 := hS1 (by decide)
      try simp only [Act.put, List.setIfInBounds_toArray, List.set_cons_zero, List.set_cons_succ]
      refine wpAnyX_two (i := 4) (j := 8) (oi := _) (oj := _) rfl rfl (by kernel_rfl) (fun K hK => ?_) (fun K hK => ?_)
      · go_simp
        refine (zm (r := ra) (c := cb) (n := N) (by rw [EN.out]; simp) n32).mono ?_
        rintro ee vz ⟨gz, rfl, hBz, hgz, hbz0⟩
        have hbz := undrew hbz0
        have hzz := hbz.size
        have hzl := hBz.lt
        (try simp only [World.size_alloc, World.size_drew] at hgz hzz)
        refine hK.out _ _ (fun _ => ?_) (fun hS2 => ?_)
        · exact ⟨kc hbz0 hS1.1, kc hbz0 hS1.2⟩
        clear hK K
        have hS2 := hS2 (by decide)
        try simp only [Act.put, List.setIfInBounds_toArray, List.set_cons_zero, List.set_cons_succ]
        refine wpAnyX_one (i := 8) (o := _) rfl (by kernel_rfl) (fun K hK => ?_)
        go_simp
        refine hK.out _ _ (fun _ => ?_) (fun hS3 => ?_)
        · first | exact ⟨kal hS2.1, kal hS2.2⟩ | exact ⟨kald hS2.1, kald hS2.2⟩
        clear hK K
        have hS3 := hS3 (by decide)
        try simp only [Act.put, List.setIfInBounds_toArray, List.set_cons_zero, List.set_cons_succ]
        refine wpAnyX_one (i := 9) (o := _) rfl (by kernel_rfl) (fun K hK => ?_)
        go_simp
        refine hK.out _ _ (fun _ => ?_) (fun hS4 => ?_)
        · first | exact ⟨kst3 (by omega) hS3.1, kst3 (by omega) hS3.2⟩ | exact ⟨kre (by omega) hS3.1, kre (by omega) hS3.2⟩ | exact ⟨kal hS3.1, kal hS3.2⟩ | exact ⟨kal hS2.1, kal hS2.2⟩ | exact ⟨kal (kre (by omega) hS2.1), kal (kre (by omega) hS2.2)⟩
        clear hK K
        have hS4 := hS4 (by decide)
        try simp only [Act.put, List.setIfInBounds_toArray, List.set_cons_zero, List.set_cons_succ]
        refine wpAnyX_take (i := 10) (oi := _) (v := ?_) rfl (by kernel_rfl) (by kernel_rfl) (by kernel_rfl) (by kernel_rfl) (fun _ _ _ h => h) (Or.inl ⟨by rfl, ?_⟩) hS4 ?_
        rotate_left 1
        · (intro w hSw; (try dsimp only at hSw); go_simp; (try with_reducible rfl))
        change wpAnyX _ _ _ _ _ _ _ _ (Act.put _ (some 7) _) _
        try simp only [Act.put, List.setIfInBounds_toArray, List.set_cons_zero, List.set_cons_succ]
        refine wpAnyX_done (by kernel_rfl) ?_ _
        go_wp2_with (fail)
        go_meet
        refine ⟨_, gz, _, rfl, rfl, ?_, ?_, ?_, ?_, ?_⟩
        · show Bx _ _ _ _
          (first | exact (Bx.set (i := 2) (u := .slice (some ⟨gz, 0, none⟩) N N) (Bx.set (i := 1) (u := .int .i64 (cb : Int)) (Bx.set (i := 0) (u := .int .i64 (ra : Int)) (Bx.new (cs := #[.int .i64 0, .int .i64 0, .slice none 0 0]) (by first | rfl | (simp; done))) rfl) rfl) rfl) | exact (Bx.new (cs := #[.int .i64 (ra : Int), .int .i64 (cb : Int), .slice (some ⟨gz, 0, none⟩) N N]) (by first | rfl | (simp; done))))
        · show Bk _ _ _ _
          (first | exact (Bk.far (Bk.far (Bk.far (Bk.alloc hBz _) (by (try dsimp only); omega) _) (by (try dsimp only); omega) _) (by (try dsimp only); omega) _) | exact (Bk.alloc hBz _))
        · show Bk _ _ _ _
          (first | exact (Bk.far (Bk.far (Bk.far (Bk.alloc (Bk.monoB (Bk.made' (by first | rfl | (simp; done))) hbz) _) (by (try dsimp only); omega) _) (by (try dsimp only); omega) _) (by (try dsimp only); omega) _) | exact (Bk.alloc (Bk.monoB (Bk.made' (by first | rfl | (simp; done))) hbz) _))
        · show _ ∧ _
          refine ⟨?_, ?_, ?_, ?_, ?_, ?_⟩ <;> omega
        · show Below _ _ _
          (repeat' (first | (with_reducible exact Below.refl _ _) | (with_reducible assumption) | (with_reducible refine Below.alloc ?_ ?_ _) | (with_reducible refine Below.drew ?_) | (with_reducible refine below_drewN ?_ _) | (with_reducible refine Below.setCell ?_ ?_ _) | (with_reducible refine chain ?_ (by assumption) ?_) | omega | (simp; done) | (simp; omega)))
      · go_simp
        refine hK.out _ _ (fun _ => ?_) (fun hS2 => ?_)
        · first | exact ⟨kal hS1.1, kal hS1.2⟩ | exact ⟨kald hS1.1, kald hS1.2⟩
        clear hK K
        have hS2 := hS2 (by decide)
        try simp only [Act.put, List.setIfInBounds_toArray, List.set_cons_zero, List.set_cons_succ]
        refine wpAnyX_one (i := 4) (o := _) rfl (by kernel_rfl) (fun K hK => ?_)
        go_simp
        refine (zm (r := ra) (c := cb) (n := N) (by rw [EN.out]; simp) n32).mono ?_
        rintro ee vz ⟨gz, rfl, hBz, hgz, hbz0⟩
        have hbz := undrew hbz0
        have hzz := hbz.size
        have hzl := hBz.lt
        (try simp only [World.size_alloc, World.size_drew] at hgz hzz)
        refine hK.out _ _ (fun _ => ?_) (fun hS3 => ?_)
        · exact ⟨kc hbz0 hS2.1, kc hbz0 hS2.2⟩
        clear hK K
        have hS3 := hS3 (by decide)
        try simp only [Act.put, List.setIfInBounds_toArray, List.set_cons_zero, List.set_cons_succ]
        refine wpAnyX_one (i := 9) (o := _) rfl (by kernel_rfl) (fun K hK => ?_)
        have XB : Bx _ (w2.heap.size + 1) 30 #[.int .i64 0, .int .i64 0, .slice none 0 0] := (Bx.mono (Bx.new (by first | rfl | (simp; done))) hbz)
        have xb0 := XB.c 0 rfl
        have xb1 := XB.c 1 rfl
        have xb2 := XB.c 2 rfl
        have xbf := XB.f
        have xbl := XB.lt
        go_simp
        refine hK.out _ _ (fun _ => ?_) (fun hS4 => ?_)
        · first | exact ⟨kst3 (by omega) hS3.1, kst3 (by omega) hS3.2⟩ | exact ⟨kre (by omega) hS3.1, kre (by omega) hS3.2⟩ | exact ⟨kal hS3.1, kal hS3.2⟩ | exact ⟨kal hS2.1, kal hS2.2⟩ | exact ⟨kal (kre (by omega) hS2.1), kal (kre (by omega) hS2.2)⟩
        clear hK K
        have hS4 := hS4 (by decide)
        try simp only [Act.put, List.setIfInBounds_toArray, List.set_cons_zero, List.set_cons_succ]
        refine wpAnyX_take (i := 10) (oi := _) (v := ?_) rfl (by kernel_rfl) (by kernel_rfl) (by kernel_rfl) (by kernel_rfl) (fun _ _ _ h => h) (Or.inl ⟨by rfl, ?_⟩) hS4 ?_
        rotate_left 1
        · (intro w hSw; (try dsimp only at hSw); go_simp; (try with_reducible rfl))
        change wpAnyX _ _ _ _ _ _ _ _ (Act.put _ (some 7) _) _
        try simp only [Act.put, List.setIfInBounds_toArray, List.set_cons_zero, List.set_cons_succ]
        refine wpAnyX_done (by kernel_rfl) ?_ _
        go_wp2_with (fail)
        go_meet
        refine ⟨_, gz, _, rfl, rfl, ?_, ?_, ?_, ?_, ?_⟩
        · show Bx _ _ _ _
          (first | exact (Bx.set (i := 2) (u := .slice (some ⟨gz, 0, none⟩) N N) (Bx.set (i := 1) (u := .int .i64 (cb : Int)) (Bx.set (i := 0) (u := .int .i64 (ra : Int)) (Bx.mono (Bx.new (cs := #[.int .i64 0, .int .i64 0, .slice none 0 0]) (by first | rfl | (simp; done))) hbz) rfl) rfl) rfl) | exact (Bx.mono (Bx.new (cs := #[.int .i64 (ra : Int), .int .i64 (cb : Int), .slice (some ⟨gz, 0, none⟩) N N]) (by first | rfl | (simp; done))) hbz))
        · show Bk _ _ _ _
          (first | exact (Bk.far (Bk.far (Bk.far hBz (by (try dsimp only); omega) _) (by (try dsimp only); omega) _) (by (try dsimp only); omega) _) | exact hBz)
        · show Bk _ _ _ _
          (first | exact (Bk.far (Bk.far (Bk.far (Bk.monoB (Bk.alloc (Bk.made' (by first | rfl | (simp; done))) _) hbz) (by (try dsimp only); omega) _) (by (try dsimp only); omega) _) (by (try dsimp only); omega) _) | exact (Bk.monoB (Bk.alloc (Bk.made' (by first | rfl | (simp; done))) _) hbz))
        · show _ ∧ _
          refine ⟨?_, ?_, ?_, ?_, ?_, ?_⟩ <;> omega
        · show Below _ _ _
          (repeat' (first | (with_reducible exact Below.refl _ _) | (with_reducible assumption) | (with_reducible refine Below.alloc ?_ ?_ _) | (with_reducible refine Below.drew ?_) | (with_reducible refine below_drewN ?_ _) | (with_reducible refine Below.setCell ?_ ?_ _) | (with_reducible refine chain ?_ (by assumption) ?_) | omega | (simp; done) | (simp; omega)))
    · go_simp
      refine hK.out _ _ (fun _ => ?_) (fun hS1 => ?_)
      · first | exact ⟨kal hS0.1, kal hS0.2⟩ | exact ⟨kald hS0.1, kald hS0.2⟩
      clear hK K
      have hS1 := hS1 (by decide)
      try simp only [Act.put, List.setIfInBounds_toArray, List.set_cons_zero, List.set_cons_succ]
      refine wpAnyX_two (i := 4) (j := 7) (oi := _) (oj := _) rfl rfl (by kernel_rfl) (fun K hK => ?_) (fun K hK => ?_)
      · go_simp
        refine (zm (r := ra) (c := cb) (n := N) (by rw [EN.out]; simp) n32).mono ?_
        rintro ee vz ⟨gz, rfl, hBz, hgz, hbz0⟩
        have hbz := undrew hbz0
        have hzz := hbz.size
        have hzl := hBz.lt
        (try simp only [World.size_alloc, World.size_drew] at hgz hzz)
        refine hK.out _ _ (fun _ => ?_) (fun hS2 => ?_)
        · exact ⟨kc hbz0 hS1.1, kc hbz0 hS1.2⟩
        clear hK K
        have hS2 := hS2 (by decide)
        try simp only [Act.put, List.setIfInBounds_toArray, List.set_cons_zero, List.set_cons_succ]
        refine wpAnyX_two (i := 7) (j := 9) (oi := _) (oj := _) rfl rfl (by kernel_rfl) (fun K hK => ?_) (fun K hK => ?_)
        · go_simp
          refine hK.out _ _ (fun _ => ?_) (fun hS3 => ?_)
          · first | exact ⟨kal hS2.1, kal hS2.2⟩ | exact ⟨kald hS2.1, kald hS2.2⟩
          clear hK K
          have hS3 := hS3 (by decide)
          try simp only [Act.put, List.setIfInBounds_toArray, List.set_cons_zero, List.set_cons_succ]
          refine wpAnyX_one (i := 9) (o := _) rfl (by kernel_rfl) (fun K hK => ?_)
          have XB : Bx _ (w2.heap.size) 30 #[.int .i64 0, .int .i64 0, .slice none 0 0] := (Bx.alloc (Bx.mono (Bx.new (by first | rfl | (simp; done))) hbz) (.cells (csL (List.replicate cb z5)).toArray 99))
          have xb0 := XB.c 0 rfl
          have xb1 := XB.c 1 rfl
          have xb2 := XB.c 2 rfl
          have xbf := XB.f
          have xbl := XB.lt
          go_simp
          refine hK.out _ _ (fun _ => ?_) (fun hS4 => ?_)
          · first | exact ⟨kst3 (by omega) hS3.1, kst3 (by omega) hS3.2⟩ | exact ⟨kre (by omega) hS3.1, kre (by omega) hS3.2⟩ | exact ⟨kal hS3.1, kal hS3.2⟩ | exact ⟨kal hS2.1, kal hS2.2⟩ | exact ⟨kal (kre (by omega) hS2.1), kal (kre (by omega) hS2.2)⟩
          clear hK K
          have hS4 := hS4 (by decide)
          try simp only [Act.put, List.setIfInBounds_toArray, List.set_cons_zero, List.set_cons_succ]
          refine wpAnyX_take (i := 10) (oi := _) (v := ?_) rfl (by kernel_rfl) (by kernel_rfl) (by kernel_rfl) (by kernel_rfl) (fun _ _ _ h => h) (Or.inl ⟨by rfl, ?_⟩) hS4 ?_
          rotate_left 1
          · (intro w hSw; (try dsimp only at hSw); go_simp; (try with_reducible rfl))
          change wpAnyX _ _ _ _ _ _ _ _ (Act.put _ (some 7) _) _
          try simp only [Act.put, List.setIfInBounds_toArray, List.set_cons_zero, List.set_cons_succ]
          refine wpAnyX_done (by kernel_rfl) ?_ _
          go_wp2_with (fail)
          go_meet
          refine ⟨_, gz, _, rfl, rfl, ?_, ?_, ?_, ?_, ?_⟩
          · show Bx _ _ _ _
            (first | exact (Bx.set (i := 2) (u := .slice (some ⟨gz, 0, none⟩) N N) (Bx.set (i := 1) (u := .int .i64 (cb : Int)) (Bx.set (i := 0) (u := .int .i64 (ra : Int)) (Bx.alloc (Bx.mono (Bx.new (cs := #[.int .i64 0, .int .i64 0, .slice none 0 0]) (by first | rfl | (simp; done))) hbz) _) rfl) rfl) rfl) | exact (Bx.alloc (Bx.mono (Bx.new (cs := #[.int .i64 (ra : Int), .int .i64 (cb : Int), .slice (some ⟨gz, 0, none⟩) N N]) (by first | rfl | (simp; done))) hbz) _))
          · show Bk _ _ _ _
            (first | exact (Bk.far (Bk.far (Bk.far (Bk.alloc hBz _) (by (try dsimp only); omega) _) (by (try dsimp only); omega) _) (by (try dsimp only); omega) _) | exact (Bk.alloc hBz _))
          · show Bk _ _ _ _
            (first | exact (Bk.far (Bk.far (Bk.far (Bk.made' (by first | rfl | (simp; done))) (by (try dsimp only); omega) _) (by (try dsimp only); omega) _) (by (try dsimp only); omega) _) | exact (Bk.made' (by first | rfl | (simp; done))))
          · show _ ∧ _
            refine ⟨?_, ?_, ?_, ?_, ?_, ?_⟩ <;> omega
          · show Below _ _ _
            (repeat' (first | (with_reducible exact Below.refl _ _) | (with_reducible assumption) | (with_reducible refine Below.alloc ?_ ?_ _) | (with_reducible refine Below.drew ?_) | (with_reducible refine below_drewN ?_ _) | (with_reducible refine Below.setCell ?_ ?_ _) | (with_reducible refine chain ?_ (by assumption) ?_) | omega | (simp; done) | (simp; omega)))
        · have XB : Bx _ (w2.heap.size) 30 #[.int .i64 0, .int .i64 0, .slice none 0 0] := (Bx.mono (Bx.new (by first | rfl | (simp; done))) hbz)
          have xb0 := XB.c 0 rfl
          have xb1 := XB.c 1 rfl
          have xb2 := XB.c 2 rfl
          have xbf := XB.f
          have xbl := XB.lt
          go_simp
          refine hK.out _ _ (fun _ => ?_) (fun hS3 => ?_)
          · first | exact ⟨kst3 (by omega) hS2.1, kst3 (by omega) hS2.2⟩ | exact ⟨kre (by omega) hS2.1, kre (by omega) hS2.2⟩ | exact ⟨kal hS2.1, kal hS2.2⟩ | exact ⟨kal hS1.1, kal hS1.2⟩ | exact ⟨kal (kre (by omega) hS1.1), kal (kre (by omega) hS1.2)⟩
          clear hK K
          have hS3 := hS3 (by decide)
          try simp only [Act.put, List.setIfInBounds_toArray, List.set_cons_zero, List.set_cons_succ]
          refine wpAnyX_one (i := 7) (o := _) rfl (by kernel_rfl) (fun K hK => ?_)
          go_simp
          refine hK.out _ _ (fun _ => ?_) (fun hS4 => ?_)
          · first | exact ⟨kal hS3.1, kal hS3.2⟩ | exact ⟨kald hS3.1, kald hS3.2⟩
          clear hK K
          have hS4 := hS4 (by decide)
          try simp only [Act.put, List.setIfInBounds_toArray, List.set_cons_zero, List.set_cons_succ]
          refine wpAnyX_take (i := 10) (oi := _) (v := ?_) rfl (by kernel_rfl) (by kernel_rfl) (by kernel_rfl) (by kernel_rfl) (fun _ _ _ h => h) (Or.inl ⟨by rfl, ?_⟩) hS4 ?_
          rotate_left 1
          · (intro w hSw; (try dsimp only at hSw); go_simp; (try with_reducible rfl))
          change wpAnyX _ _ _ _ _ _ _ _ (Act.put _ (some 7) _) _
          try simp only [Act.put, List.setIfInBounds_toArray, List.set_cons_zero, List.set_cons_succ]
          refine wpAnyX_done (by kernel_rfl) ?_ _
          go_wp2_with (fail)
          go_meet
          refine ⟨_, gz, _, rfl, rfl, ?_, ?_, ?_, ?_, ?_⟩
          · show Bx _ _ _ _
            (first | exact (Bx.alloc (Bx.set (i := 2) (u := .slice (some ⟨gz, 0, none⟩) N N) (Bx.set (i := 1) (u := .int .i64 (cb : Int)) (Bx.set (i := 0) (u := .int .i64 (ra : Int)) (Bx.mono (Bx.new (cs := #[.int .i64 0, .int .i64 0, .slice none 0 0]) (by first | rfl | (simp; done))) hbz) rfl) rfl) rfl) _) | exact (Bx.alloc (Bx.mono (Bx.new (cs := #[.int .i64 (ra : Int), .int .i64 (cb : Int), .slice (some ⟨gz, 0, none⟩) N N]) (by first | rfl | (simp; done))) hbz) _))
          · show Bk _ _ _ _
            (first | exact (Bk.alloc (Bk.far (Bk.far (Bk.far hBz (by (try dsimp only); omega) _) (by (try dsimp only); omega) _) (by (try dsimp only); omega) _) _) | exact (Bk.alloc hBz _))
          · show Bk _ _ _ _
            (first | exact (Bk.made' (by first | rfl | (simp; done))) | exact (Bk.made' (by first | rfl | (simp; done))))
          · show _ ∧ _
            refine ⟨?_, ?_, ?_, ?_, ?_, ?_⟩ <;> omega
          · show Below _ _ _
            (repeat' (first | (with_reducible exact Below.refl _ _) | (with_reducible assumption) | (with_reducible refine Below.alloc ?_ ?_ _) | (with_reducible refine Below.drew ?_) | (with_reducible refine below_drewN ?_ _) | (with_reducible refine Below.setCell ?_ ?_ _) | (with_reducible refine chain ?_ (by assumption) ?_) | omega | (simp; done) | (simp; omega)))
      · go_simp
        refine hK.out _ _ (fun _ => ?_) (fun hS2 => ?_)
        · first | exact ⟨kal hS1.1, kal hS1.2⟩ | exact ⟨kald hS1.1, kald hS1.2⟩
        clear hK K
        have hS2 := hS2 (by decide)
        try simp only [Act.put, List.setIfInBounds_toArray, List.set_cons_zero, List.set_cons_succ]
        refine wpAnyX_one (i := 4) (o := _) rfl (by kernel_rfl) (fun K hK => ?_)
        go_simp
        refine (zm (r := ra) (c := cb) (n := N) (by rw [EN.out]; simp) n32).mono ?_
        rintro ee vz ⟨gz, rfl, hBz, hgz, hbz0⟩
        have hbz := undrew hbz0
        have hzz := hbz.size
        have hzl := hBz.lt
        (try simp only [World.size_alloc, World.size_drew] at hgz hzz)
        refine hK.out _ _ (fun _ => ?_) (fun hS3 => ?_)
        · exact ⟨kc hbz0 hS2.1, kc hbz0 hS2.2⟩
        clear hK K
        have hS3 := hS3 (by decide)
        try simp only [Act.put, List.setIfInBounds_toArray, List.set_cons_zero, List.set_cons_succ]
        refine wpAnyX_one (i := 9) (o := _) rfl (by kernel_rfl) (fun K hK => ?_)
        have XB : Bx _ (w2.heap.size) 30 #[.int .i64 0, .int .i64 0, .slice none 0 0] := (Bx.mono (Bx.alloc (Bx.new (by first | rfl | (simp; done))) (.cells (csL (List.replicate cb z5)).toArray 99)) hbz)
        have xb0 := XB.c 0 rfl
        have xb1 := XB.c 1 rfl
        have xb2 := XB.c 2 rfl
        have xbf := XB.f
        have xbl := XB.lt
        go_simp
        refine hK.out _ _ (fun _ => ?_) (fun hS4 => ?_)
        · first | exact ⟨kst3 (by omega) hS3.1, kst3 (by omega) hS3.2⟩ | exact ⟨kre (by omega) hS3.1, kre (by omega) hS3.2⟩ | exact ⟨kal hS3.1, kal hS3.2⟩ | exact ⟨kal hS2.1, kal hS2.2⟩ | exact ⟨kal (kre (by omega) hS2.1), kal (kre (by omega) hS2.2)⟩
        clear hK K
        have hS4 := hS4 (by decide)
        try simp only [Act.put, List.setIfInBounds_toArray, List.set_cons_zero, List.set_cons_succ]
        refine wpAnyX_take (i := 10) (oi := _) (v := ?_) rfl (by kernel_rfl) (by kernel_rfl) (by kernel_rfl) (by kernel_rfl) (fun _ _ _ h => h) (Or.inl ⟨by rfl, ?_⟩) hS4 ?_
        rotate_left 1
        · (intro w hSw; (try dsimp only at hSw); go_simp; (try with_reducible rfl))
        change wpAnyX _ _ _ _ _ _ _ _ (Act.put _ (some 7) _) _
        try simp only [Act.put, List.setIfInBounds_toArray, List.set_cons_zero, List.set_cons_succ]
        refine wpAnyX_done (by kernel_rfl) ?_ _
        go_wp2_with (fail)
        go_meet
        refine ⟨_, gz, _, rfl, rfl, ?_, ?_, ?_, ?_, ?_⟩
        · show Bx _ _ _ _
          (first | exact (Bx.set (i := 2) (u := .slice (some ⟨gz, 0, none⟩) N N) (Bx.set (i := 1) (u := .int .i64 (cb : Int)) (Bx.set (i := 0) (u := .int .i64 (ra : Int)) (Bx.mono (Bx.alloc (Bx.new (cs := #[.int .i64 0, .int .i64 0, .slice none 0 0]) (by first | rfl | (simp; done))) _) hbz) rfl) rfl) rfl) | exact (Bx.mono (Bx.alloc (Bx.new (cs := #[.int .i64 (ra : Int), .int .i64 (cb : Int), .slice (some ⟨gz, 0, none⟩) N N]) (by first | rfl | (simp; done))) _) hbz))
        · show Bk _ _ _ _
          (first | exact (Bk.far (Bk.far (Bk.far hBz (by (try dsimp only); omega) _) (by (try dsimp only); omega) _) (by (try dsimp only); omega) _) | exact hBz)
        · show Bk _ _ _ _
          (first | exact (Bk.far (Bk.far (Bk.far (Bk.monoB (Bk.made' (by first | rfl | (simp; done))) hbz) (by (try dsimp only); omega) _) (by (try dsimp only); omega) _) (by (try dsimp only); omega) _) | exact (Bk.monoB (Bk.made' (by first | rfl | (simp; done))) hbz))
        · show _ ∧ _
          refine ⟨?_, ?_, ?_, ?_, ?_, ?_⟩ <;> omega
        · show Below _ _ _
          (repeat' (first | (with_reducible exact Below.refl _ _) | (with_reducible assumption) | (with_reducible refine Below.alloc ?_ ?_ _) | (with_reducible refine Below.drew ?_) | (with_reducible refine below_drewN ?_ _) | (with_reducible refine Below.setCell ?_ ?_ _) | (with_reducible refine chain ?_ (by assumption) ?_) | omega | (simp; done) | (simp; omega)))
  case rest =>
    obtain ⟨w5, rfl⟩ : ∃ w5, w5 = wc := ⟨_, rfl⟩
    obtain ⟨bo, gz, gm, rfl, rfl, Xo, HGZ, HGM, HDI, HB5⟩ := hcut
    obtain ⟨n1, n2, n3, n4, n5, n6⟩ := HDI.out
    have hz5 := HB5.out.size
    have hw5 : Below w.heap.size w w5 := chain hw2 HB5.out hw2.size
    have Xa := hid (Ya2.out.mono HB5.out)
    have Xb := hid (Yb2.out.mono HB5.out)
    have Xz := hid (Yz2.out.mono HB5.out)
    have H5 := hid hw5
    have lz2 := lz
    clear Ya2 Yb2 Yz2 hw5 HDI HB5 ca0 ca1 ca2 cb0 cb1 cb2 cz0 cz1 cz2 fa la fb lb fz lz hmk
    have ca0 := Xa.out.c 0 rfl
    have ca1 := Xa.out.c 1 rfl
    have ca2 := Xa.out.c 2 rfl
    have la := Xa.out.lt
    have cb0 := Xb.out.c 0 rfl
    have cb1 := Xb.out.c 1 rfl
    have cb2 := Xb.out.c 2 rfl
    have lb := Xb.out.lt
    have cz0 := Xz.out.c 0 rfl
    have cz1 := Xz.out.c 1 rfl
    have cz2 := Xz.out.c 2 rfl
    have lz := Xz.out.lt
    have fz := Xz.out.f
    have co0 := Xo.out.c 0 rfl
    have co1 := Xo.out.c 1 rfl
    have co2 := Xo.out.c 2 rfl
    have lo := Xo.out.lt
    go_wp2_with (fail)
    go_loopg [22] ra (fun q s1 wo => ∃ i : Nat, i + q = ra ∧ s1 = .int .i64 (i : Int) ∧ Hid (Bx wo (w.heap.size) 30 #[.int .i64 (ra : Int), .int .i64 (ca : Int), .slice (some ⟨g0, 0, none⟩) n cp]) ∧ Hid (Bx wo (w.heap.size + 1) 30 #[.int .i64 (ca : Int), .int .i64 (cb : Int), .slice (some ⟨h0, 0, none⟩) m cp']) ∧ Hid (Bx wo (w.heap.size + 1 + 1) 30 #[.int .i64 0, .int .i64 0, .slice none 0 0]) ∧ Hid (Bx wo (bo) 30 #[.int .i64 (ra : Int), .int .i64 (cb : Int), .slice (some ⟨gz, 0, none⟩) N N]) ∧ Hid (Bk wo gz 99 (tab N (mmP ca cb xs ys i 0))) ∧ Hid (∃ ms : List D5, Bk wo gm 99 ms ∧ ms.length = cb) ∧ Hid (∀ i' j, i' < i → j < cb → (mmT ca cb xs ys i' j false ca).2 = false) ∧ w5.heap.size ≤ wo.heap.size ∧ Hid (Below w.heap.size w wo))
    case atStart =>
      refine ⟨0, by omega, rfl, Xa, Xb, Xz, Xo, ?_, ?_, ?_, Nat.le_refl _, H5⟩
      · show Bk _ _ _ _; rw [mmP_0]; exact HGZ.out
      · exact hid ⟨_, HGM.out, by simp⟩
      · exact hid (fun i' j h => absurd h (Nat.not_lt_zero _))
    case round =>
      clear HGZ HGM H5 Xa la ca0 ca1 ca2 Xb lb cb0 cb1 cb2 Xz lz cz0 cz1 cz2 Xo lo co0 co1 co2 fz
      obtain ⟨i, hi, rfl, Xa, Xb, Xz, Xo, HG, HMS, HK, hsz, HBo⟩ := hrel
      have ca0 := Xa.out.c 0 rfl
      have ca1 := Xa.out.c 1 rfl
      have ca2 := Xa.out.c 2 rfl
      have la := Xa.out.lt
      have cb0 := Xb.out.c 0 rfl
      have cb1 := Xb.out.c 1 rfl
      have cb2 := Xb.out.c 2 rfl
      have lb := Xb.out.lt
      have cz0 := Xz.out.c 0 rfl
      have cz1 := Xz.out.c 1 rfl
      have cz2 := Xz.out.c 2 rfl
      have lz := Xz.out.lt
      have fz := Xz.out.f
      have co0 := Xo.out.c 0 rfl
      have co1 := Xo.out.c 1 rfl
      have co2 := Xo.out.c 2 rfl
      have lo := Xo.out.lt
      cases gk with
      | zero =>
        obtain rfl : ra = i := by omega
        have hBq := HBo.out.size
        go_wp2_with (fail)
        refine bodyPost_ret (v := mt (ra : Int) (cb : Int) (some ⟨gz, 0, none⟩) N N true) (by first | (simp [results, Try.results73, go_sem, *]; done) | (simp (disch := (first | omega | (simp; done) | (simp; omega))) [results, Try.results73, go_sem, *]; done) | (simp only [results, Try.results73]; go_simp; done)) rfl ⟨fun h => ?_, fun _ => ⟨gz, rfl, ?_, by omega⟩, ?_⟩
        · rw [mmG_no EN.out (by omega) (fun i j hi hj => HK.out i j hi hj)] at h; cases h
        · have h1 := HG.out
          rw [mmP_end EN.out] at h1
          (repeat' (first | exact h1 | refine Bk.far ?_ (by show gz ≠ w.heap.size + 1 + 1; omega) _))
        · have hB := HBo.out
          (repeat' (first | (with_reducible exact Below.refl _ _) | (with_reducible assumption) | (with_reducible refine Below.alloc ?_ ?_ _) | (with_reducible refine Below.drew ?_) | (with_reducible refine below_drewN ?_ _) | (with_reducible refine Below.setCell ?_ ?_ _) | (with_reducible refine chain ?_ (by assumption) ?_) | omega | (simp; done) | (simp; omega)))
      | succ m9 =>
        have hlti : i < ra := by omega
        have i1 : (i : Int) < (ra : Int) := by omega
        have hBq := HBo.out.size
        obtain ⟨s, hs1, hs2, hs3, hs4⟩ := row_at EN.out hlti
        obtain ⟨sa, sa1, sa2, sa3, sa4⟩ := row_at HNN.out hlti
        have HS1 := hid hs1
        have HS2 := hid hs2
        have HS4 := hid hs4
        have SA1 := hid sa1
        have SA2 := hid sa2
        have SA4 := hid sa4
        clear hs1 hs2 hs4 sa1 sa2 sa4
        go_wp2_with (fail)
        refine (rw_i (s := s) HS1.out HS2.out (by omega) (by omega) (by omega) (by omega)).mono ?_
        rintro ee w6 ⟨rfl, hb6⟩
        have hz6 := hb6.size
        have HB6 := hid (chain HBo.out hb6 HBo.out.size)
        have HG6 := hid (HG.out.mono hb6)
        have HM6 : Hid (∃ ms : List D5, Bk w6 gm 99 ms ∧ ms.length = cb) := by show ∃ _, _; obtain ⟨ms, h1, h2⟩ := HMS.out; exact ⟨ms, h1.mono hb6, h2⟩
        clear HG HMS HBo
        have Ya := hid (Xa.out.mono hb6)
        have Yb := hid (Xb.out.mono hb6)
        have Yz := hid (Xz.out.mono hb6)
        have Yo := hid (Xo.out.mono hb6)
        clear Xa la ca0 ca1 ca2 Xb lb cb0 cb1 cb2 Xz lz cz0 cz1 cz2 Xo lo co0 co1 co2 fz
        have Xa := Ya
        have ca0 := Xa.out.c 0 rfl
        have ca1 := Xa.out.c 1 rfl
        have ca2 := Xa.out.c 2 rfl
        have la := Xa.out.lt
        have Xb := Yb
        have cb0 := Xb.out.c 0 rfl
        have cb1 := Xb.out.c 1 rfl
        have cb2 := Xb.out.c 2 rfl
        have lb := Xb.out.lt
        have Xz := Yz
        have cz0 := Xz.out.c 0 rfl
        have cz1 := Xz.out.c 1 rfl
        have cz2 := Xz.out.c 2 rfl
        have lz := Xz.out.lt
        have Xo := Yo
        have co0 := Xo.out.c 0 rfl
        have co1 := Xo.out.c 1 rfl
        have co2 := Xo.out.c 2 rfl
        have lo := Xo.out.lt
        have fz := Xz.out.f
        clear Ya Yb Yz Yo
        go_wp2_with (fail)
        refine (rw_i (s := sa) SA1.out SA2.out (by omega) hc2 a3 (by omega)).mono ?_
        rintro ee w7 ⟨rfl, hb7⟩
        have hz7 := hb7.size
        have HB7 := hid (chain HB6.out hb7 HB6.out.size)
        have HG7 := hid (HG6.out.mono hb7)
        have HM7 : Hid (∃ ms : List D5, Bk w7 gm 99 ms ∧ ms.length = cb) := by show ∃ _, _; obtain ⟨ms, h1, h2⟩ := HM6.out; exact ⟨ms, h1.mono hb7, h2⟩
        clear HG6 HM6 HB6
        have Ya := hid (Xa.out.mono hb7)
        have Yb := hid (Xb.out.mono hb7)
        have Yz := hid (Xz.out.mono hb7)
        have Yo := hid (Xo.out.mono hb7)
        clear Xa la ca0 ca1 ca2 Xb lb cb0 cb1 cb2 Xz lz cz0 cz1 cz2 Xo lo co0 co1 co2 fz
        have Xa := Ya
        have ca0 := Xa.out.c 0 rfl
        have ca1 := Xa.out.c 1 rfl
        have ca2 := Xa.out.c 2 rfl
        have la := Xa.out.lt
        have Xb := Yb
        have cb0 := Xb.out.c 0 rfl
        have cb1 := Xb.out.c 1 rfl
        have cb2 := Xb.out.c 2 rfl
        have lb := Xb.out.lt
        have Xz := Yz
        have cz0 := Xz.out.c 0 rfl
        have cz1 := Xz.out.c 1 rfl
        have cz2 := Xz.out.c 2 rfl
        have lz := Xz.out.lt
        have Xo := Yo
        have co0 := Xo.out.c 0 rfl
        have co1 := Xo.out.c 1 rfl
        have co2 := Xo.out.c 2 rfl
        have lo := Xo.out.lt
        have fz := Xz.out.f
        clear Ya Yb Yz Yo
        clear hb6 hb7
        go_wp2_with (fail)
        go_loopg [32] ca (fun q s1 wi => ∃ k : Nat, k + q = ca ∧ s1 = .int .i64 (k : Int) ∧ Hid (Bx wi (w.heap.size) 30 #[.int .i64 (ra : Int), .int .i64 (ca : Int), .slice (some ⟨g0, 0, none⟩) n cp]) ∧ Hid (Bx wi (w.heap.size + 1) 30 #[.int .i64 (ca : Int), .int .i64 (cb : Int), .slice (some ⟨h0, 0, none⟩) m cp']) ∧ Hid (Bx wi (w.heap.size + 1 + 1) 30 #[.int .i64 0, .int .i64 0, .slice none 0 0]) ∧ Hid (Bx wi (bo) 30 #[.int .i64 (ra : Int), .int .i64 (cb : Int), .slice (some ⟨gz, 0, none⟩) N N]) ∧ Hid (Bk wi gz 99 (tab N (mmP ca cb xs ys i k))) ∧ Hid (∃ ms : List D5, Bk wi gm 99 ms ∧ ms.length = cb) ∧ Hid (∀ j, j < cb → (mmT ca cb xs ys i j false k).2 = false) ∧ w5.heap.size ≤ wi.heap.size ∧ Hid (Below w.heap.size w wi))
        case atStart =>
          refine ⟨0, by omega, rfl, Xa, Xb, Xz, Xo, HG7, HM7, ?_, by omega, HB7⟩
          exact hid (fun j _ => rfl)
        case round =>
          clear HG7 HM7 HB7 Xa la ca0 ca1 ca2 Xb lb cb0 cb1 cb2 Xz lz cz0 cz1 cz2 Xo lo co0 co1 co2 fz
          obtain ⟨k, hk, rfl, Xa, Xb, Xz, Xo, HG, HMS, HK2, hsz2, HBo⟩ := hrel
          have ca0 := Xa.out.c 0 rfl
          have ca1 := Xa.out.c 1 rfl
          have ca2 := Xa.out.c 2 rfl
          have la := Xa.out.lt
          have cb0 := Xb.out.c 0 rfl
          have cb1 := Xb.out.c 1 rfl
          have cb2 := Xb.out.c 2 rfl
          have lb := Xb.out.lt
          have cz0 := Xz.out.c 0 rfl
          have cz1 := Xz.out.c 1 rfl
          have cz2 := Xz.out.c 2 rfl
          have lz := Xz.out.lt
          have fz := Xz.out.f
          have co0 := Xo.out.c 0 rfl
          have co1 := Xo.out.c 1 rfl
          have co2 := Xo.out.c 2 rfl
          have lo := Xo.out.lt
          cases gk with
          | zero =>
            obtain rfl : ca = k := by omega
            go_wp2_with (fail)
            go_roundg m9
            case measure => omega
            case rel =>
              refine ⟨i + 1, by omega, by go_num, Xa, Xb, Xz, Xo, ?_, HMS, ?_, hsz2, HBo⟩
              · show Bk _ _ _ _; rw [← mmP_row]; exact HG.out
              · exact hid (fun i' j h1 h2 => by
                  by_cases h : i' < i
                  · exact HK.out i' j h h2
                  · obtain rfl : i' = i := by omega
                    exact HK2.out j h2)
          | succ m2 =>
            have hltk : k < ca := by omega
            have k1 : (k : Int) < (ca : Int) := by omega
            have hBr := HBo.out.size
            obtain ⟨sb, sb1, sb2, sb3, sb4⟩ := row_at HMM.out hltk
            have hx := get_of (xs := xs) (q := sa + k) (by rw [HN.out]; omega)
            obtain ⟨x, hxe⟩ : ∃ x, x = xs.getD (sa + k) z5 := ⟨_, rfl⟩
            rw [← hxe] at hx
            have HKx := hid (all_get HO.out hx)
            have HX : Hid (xs.getD (i * ca + k) z5 = x) := by show _ = x; rw [hxe, SA4.out]
            have hC := HA.out.cx hx
            obtain ⟨q0, q1, q2, q3, q4⟩ := hC.at_ (HBo.out.block g0 h0A)
            simp only [Nat.add_mul] at q0 q1 q2 q3 q4
            have SB1 := hid sb1
            have SB2 := hid sb2
            have SB4 := hid sb4
            clear hC hx hxe sb1 sb2 sb4
            have hXl : ∀ k, k < ca → i * ca + k < xs.length := fun k hk => by rw [HN.out, HNN.out]; exact idx_lt hlti hk
            have hYl : ∀ j, j < cb → ∀ k, k < ca → k * cb + j < ys.length := fun j hj k hk => by rw [HM.out, HMM.out]; exact idx_lt hk hj
            have HXL := hid hXl
            have HYL := hid hYl
            clear hXl hYl
            by_cases hx0 : x = z5
            · subst hx0
              have r0 : wr.cell? ⟨g0, sa * 5 + k * 5, none⟩ = some (.int .i64 0) := q0
              have r1 : wr.cell? ⟨g0, sa * 5 + k * 5 + 1, none⟩ = some (.int .i64 0) := q1
              have r2 : wr.cell? ⟨g0, sa * 5 + k * 5 + 2, none⟩ = some (.int .i64 0) := q2
              have r3 : wr.cell? ⟨g0, sa * 5 + k * 5 + 3, none⟩ = some (.int .i64 0) := q3
              have r4 : wr.cell? ⟨g0, sa * 5 + k * 5 + 4, none⟩ = some (.int .i64 0) := q4
              clear q0 q1 q2 q3 q4
              go_wp2_with (fail)
              go_roundg m2
              case measure => omega
              case rel =>
                obtain ⟨e1, e2⟩ := mmP_skip (N := N) (by omega) hltk HX.out HO.out HP.out HXL.out HYL.out HK2.out
                refine ⟨k + 1, by omega, by go_num, (by show Bx _ _ _ _; exact Xa.out.alloc _), (by show Bx _ _ _ _; exact Xb.out.alloc _), (by show Bx _ _ _ _; exact Xz.out.alloc _), (by show Bx _ _ _ _; exact Xo.out.alloc _), ?_, ?_, hid e2, by (try simp only [World.size_alloc]); omega, hid (HBo.out.alloc hBr _)⟩
                · show Bk _ _ _ _; rw [← e1]; exact HG.out.alloc _
                · show ∃ _, _; obtain ⟨ms, h1, h2⟩ := HMS.out; exact ⟨ms, h1.alloc _, h2⟩
            · have HX0 : Hid (¬ x = z5) := hx0
              clear hx0
              go_upto_region 9 with (fail)
              obtain ⟨W, hW⟩ : ∃ W : World, W = wr.alloc (.cells #[.int .i64 x.a, .int .i64 x.b, .int .i64 x.c, .int .i64 x.d, .int .i64 x.e] 99) := ⟨_, rfl⟩
              have hbW : Below wr.heap.size wr W := by rw [hW]; exact (Below.refl _ _).alloc (Nat.le_refl _) _
              have XW0 : Bx W wr.heap.size 99 #[.int .i64 x.a, .int .i64 x.b, .int .i64 x.c, .int .i64 x.d, .int .i64 x.e] := by rw [hW]; exact Bx.new rfl
              have XW := hid XW0
              have hzW : W.heap.size = wr.heap.size + 1 := by rw [hW]; simp
              have hzW1 : wr.heap.size < W.heap.size := by omega
              rw [← hW]
              clear hW hzW XW0 q0 q1 q2 q3 q4
              have HBW := hid (chain HBo.out hbW hBr)
              have HGW := hid (HG.out.mono hbW)
              obtain ⟨ms, hms1, hms2⟩ := HMS.out
              have lgm := hms1.lt
              have lgz := HG.out.lt
              have HMW := hid (hms1.mono hbW)
              have HML := hid hms2
              clear hms1 hms2 HMS HG HBo
              have Ya := hid (Xa.out.mono hbW)
              have Yb := hid (Xb.out.mono hbW)
              have Yz := hid (Xz.out.mono hbW)
              have Yo := hid (Xo.out.mono hbW)
              clear Xa la ca0 ca1 ca2 Xb lb cb0 cb1 cb2 Xz lz cz0 cz1 cz2 Xo lo co0 co1 co2 fz
              have Xa := Ya
              have ca0 := Xa.out.c 0 rfl
              have ca1 := Xa.out.c 1 rfl
              have ca2 := Xa.out.c 2 rfl
              have la := Xa.out.lt
              have Xb := Yb
              have cb0 := Xb.out.c 0 rfl
              have cb1 := Xb.out.c 1 rfl
              have cb2 := Xb.out.c 2 rfl
              have lb := Xb.out.lt
              have Xz := Yz
              have cz0 := Xz.out.c 0 rfl
              have cz1 := Xz.out.c 1 rfl
              have cz2 := Xz.out.c 2 rfl
              have lz := Xz.out.lt
              have Xo := Yo
              have co0 := Xo.out.c 0 rfl
              have co1 := Xo.out.c 1 rfl
              have co2 := Xo.out.c 2 rfl
              have lo := Xo.out.lt
              have fz := Xz.out.f
              clear Ya Yb Yz Yo
              have xw0 := XW.out.c 0 rfl
              have xw1 := XW.out.c 1 rfl
              have xw2 := XW.out.c 2 rfl
              have xw3 := XW.out.c 3 rfl
              have xw4 := XW.out.c 4 rfl
              clear hbW
              go_cut [39] (fun s39 wx => s39 = .bool false ∧ wx = W)
              case first =>
                go_wp2_with (fail)
                all_goals go_meet
                all_goals first | exact ⟨rfl, rfl⟩ | exact absurd (z5_of (by assumption) (by assumption) (by assumption) (by assumption) (by assumption)) HX0.out
              case rest =>
                obtain ⟨rfl, rfl⟩ := hcut
                clear xw0 xw1 xw2 xw3 xw4
                go_wp2_with (fail)
                refine (rw_q (i := k) (s := sb) SB1.out SB2.out (by omega) (by omega) b3 (by omega)).mono ?_
                rintro ee w8 ⟨rfl, hb8⟩
                have hz8 := hb8.size
                have hB8 : Below w.heap.size w w8 := chain HBW.out hb8 HBW.out.size
                have hG8 := HGW.out.mono hb8
                have hM8 := HMW.out.mono hb8
                have hr8 : Rd w8 (some ⟨h0, sb * 5, none⟩) ((ys.drop sb).take cb) := by
                  have h9 := ((HB.out.mono hB8).sub sb).take cb
                  rw [Nat.zero_add] at h9
                  exact h9
                have hl8 : ((ys.drop sb).take cb).length = cb := by rw [List.length_take, List.length_drop, HM.out]; omega
                have X8 := hid (XW.out.mono hb8)
                have HG8 := hid hG8
                have HM8 := hid hM8
                have HR8 := hid hr8
                have HL8 := hid hl8
                have HB8 := hid hB8
                clear hG8 hM8 hr8 hl8 hB8 XW HGW HMW HBW
                have Ya := hid (Xa.out.mono hb8)
                have Yb := hid (Xb.out.mono hb8)
                have Yz := hid (Xz.out.mono hb8)
                have Yo := hid (Xo.out.mono hb8)
                clear Xa la ca0 ca1 ca2 Xb lb cb0 cb1 cb2 Xz lz cz0 cz1 cz2 Xo lo co0 co1 co2 fz
                have Xa := Ya
                have ca0 := Xa.out.c 0 rfl
                have ca1 := Xa.out.c 1 rfl
                have ca2 := Xa.out.c 2 rfl
                have la := Xa.out.lt
                have Xb := Yb
                have cb0 := Xb.out.c 0 rfl
                have cb1 := Xb.out.c 1 rfl
                have cb2 := Xb.out.c 2 rfl
                have lb := Xb.out.lt
                have Xz := Yz
                have cz0 := Xz.out.c 0 rfl
                have cz1 := Xz.out.c 1 rfl
                have cz2 := Xz.out.c 2 rfl
                have lz := Xz.out.lt
                have Xo := Yo
                have co0 := Xo.out.c 0 rfl
                have co1 := Xo.out.c 1 rfl
                have co2 := Xo.out.c 2 rfl
                have lo := Xo.out.lt
                have fz := Xz.out.f
                clear Ya Yb Yz Yo
                clear hb8
                go_wp2_with (refine wpList_copy5 rfl (.tmp 40) (.tmp 43) 28 28 rfl 99 Try.underlying28 HS5.out gm 0 0 cb cb h0 (sb * 5) cb rfl rfl rfl ms ((ys.drop sb).take cb) 99 HM8.out HR8.out HL8.out (by rw [HML.out]; omega) w.heap.size w HB8.out (by omega) ?_; intro w9 hK9 hb9 hk9 hz9; have HZ9 : w8.heap.size ≤ w9.heap.size := (by omega); clear hz9; have HK9 := hid hK9; have HB9 := hid hb9; have HE9 := hid hk9; have x90 := (World.cell?_of_block (a := ⟨wr.heap.size, 0, none⟩) (hk9 wr.heap.size (by omega))).trans (X8.out.c 0 rfl); have x91 := (World.cell?_of_block (a := ⟨wr.heap.size, 1, none⟩) (hk9 wr.heap.size (by omega))).trans (X8.out.c 1 rfl); have x92 := (World.cell?_of_block (a := ⟨wr.heap.size, 2, none⟩) (hk9 wr.heap.size (by omega))).trans (X8.out.c 2 rfl); have x93 := (World.cell?_of_block (a := ⟨wr.heap.size, 3, none⟩) (hk9 wr.heap.size (by omega))).trans (X8.out.c 3 rfl); have x94 := (World.cell?_of_block (a := ⟨wr.heap.size, 4, none⟩) (hk9 wr.heap.size (by omega))).trans (X8.out.c 4 rfl); clear hK9 hb9 hk9)
                have Ya := hid (show Bx _ _ _ _ from (HE9.out _ (by omega)).trans Xa.out)
                have Yb := hid (show Bx _ _ _ _ from (HE9.out _ (by omega)).trans Xb.out)
                have Yz := hid (show Bx _ _ _ _ from (HE9.out _ (by omega)).trans Xz.out)
                have Yo := hid (show Bx _ _ _ _ from (HE9.out _ (by omega)).trans Xo.out)
                clear Xa la ca0 ca1 ca2 Xb lb cb0 cb1 cb2 Xz lz cz0 cz1 cz2 Xo lo co0 co1 co2 fz
                have Xa := Ya
                have ca0 := Xa.out.c 0 rfl
                have ca1 := Xa.out.c 1 rfl
                have ca2 := Xa.out.c 2 rfl
                have la := Xa.out.lt
                have Xb := Yb
                have cb0 := Xb.out.c 0 rfl
                have cb1 := Xb.out.c 1 rfl
                have cb2 := Xb.out.c 2 rfl
                have lb := Xb.out.lt
                have Xz := Yz
                have cz0 := Xz.out.c 0 rfl
                have cz1 := Xz.out.c 1 rfl
                have cz2 := Xz.out.c 2 rfl
                have lz := Xz.out.lt
                have Xo := Yo
                have co0 := Xo.out.c 0 rfl
                have co1 := Xo.out.c 1 rfl
                have co2 := Xo.out.c 2 rfl
                have lo := Xo.out.lt
                have fz := Xz.out.f
                clear Ya Yb Yz Yo
                have HG9 := hid (show Bk _ _ _ _ from (HE9.out gz (by omega)).trans HG8.out)
                have e9 : ms.take 0 ++ ((ys.drop sb).take cb ++ ms.drop (0 + cb)) = tab cb (fun q => ((ys.drop sb).take cb).getD q z5) := by
                  have hd9 : ms.drop (0 + cb) = [] := List.drop_of_length_le (by rw [HML.out]; omega)
                  rw [List.take_zero, List.nil_append, hd9, List.append_nil]
                  conv => lhs; rw [list_tab ((ys.drop sb).take cb), HL8.out]
                have hK9 := HK9.out
                rw [e9] at hK9
                have hsr := srow (k := 0) (m := cb) (cs := cb) (N := cb) (x := x) hK9 (by omega) (by omega) (Nat.le_refl _) (by omega) (fun r hr => by
                  show (((ys.drop sb).take cb).getD (0 + r) z5).ok = true
                  rw [Nat.zero_add, row_getD hr]
                  exact all_get HP.out (get_of (by rw [HM.out]; omega))) HKx.out
                rw [Nat.zero_mul] at hsr
                have HSR := hid hsr
                clear hsr hK9 e9 HK9 HE9 HG8 HM8 HR8 X8
                refine HSR.out.mono ?_
                rintro ee w10 ⟨hAR1, hAR2, hg10⟩
                have hz10 := hg10.size
                have HB10 := hid (Below.grown HB9.out hg10 HB9.out.size (fun q e => by simp only [Option.some.injEq] at e; omega))
                have HG10 := hid (HG9.out.at_ (hg10.block gz HG9.out.lt (fun e => by simp only [Option.some.injEq] at e; omega)))
                have Ya := hid (Xa.out.grown hg10 (by intro e; simp only [Option.some.injEq] at e; omega))
                have Yb := hid (Xb.out.grown hg10 (by intro e; simp only [Option.some.injEq] at e; omega))
                have Yz := hid (Xz.out.grown hg10 (by intro e; simp only [Option.some.injEq] at e; omega))
                have Yo := hid (Xo.out.grown hg10 (by intro e; simp only [Option.some.injEq] at e; omega))
                clear Xa la ca0 ca1 ca2 Xb lb cb0 cb1 cb2 Xz lz cz0 cz1 cz2 Xo lo co0 co1 co2 fz
                have Xa := Ya
                have ca0 := Xa.out.c 0 rfl
                have ca1 := Xa.out.c 1 rfl
                have ca2 := Xa.out.c 2 rfl
                have la := Xa.out.lt
                have Xb := Yb
                have cb0 := Xb.out.c 0 rfl
                have cb1 := Xb.out.c 1 rfl
                have cb2 := Xb.out.c 2 rfl
                have lb := Xb.out.lt
                have Xz := Yz
                have cz0 := Xz.out.c 0 rfl
                have cz1 := Xz.out.c 1 rfl
                have cz2 := Xz.out.c 2 rfl
                have lz := Xz.out.lt
                have Xo := Yo
                have co0 := Xo.out.c 0 rfl
                have co1 := Xo.out.c 1 rfl
                have co2 := Xo.out.c 2 rfl
                have lo := Xo.out.lt
                have fz := Xz.out.f
                clear Ya Yb Yz Yo
                clear hg10 HSR HG9 HB9 x90 x91 x92 x93 x94
                have prd : ∀ j, j < cb → (mulS false x ((fun q => ((ys.drop sb).take cb).getD q z5) (0 + j))) = mulS false x (ys.getD (k * cb + j) z5) := fun j hj => by
                  show mulS false x (((ys.drop sb).take cb).getD (0 + j) z5) = _
                  rw [Nat.zero_add, row_getD hj, SB4.out]
                have PRD := hid prd
                clear prd
                cases hany : anyB cb (mulH (fun q => ((ys.drop sb).take cb).getD q z5) x 0)
                · obtain ⟨rfl, hK10⟩ := hAR2 hany
                  have HK10 := hid hK10
                  have HNY := hid hany
                  clear hAR1 hAR2 hany hK10
                  go_wp2_with (fail)
                  have har := arow (k := s) (m := cb) (cs := cb) (c' := cb) (N := N) (A := some ⟨gm, 0, none⟩) HG10.out HK10.out.rd (tab_len _ _) (by omega) n32 (Nat.le_refl _) (by omega) (Nat.le_refl _) (by omega) (fun a ha => by
                      simp only [Option.some.injEq] at ha; subst ha; show gm ≠ gz; omega) (fun r hr => by
                      rw [HS4.out]; exact mmP_ok hr HO.out HP.out HXL.out (HYL.out r hr) (Nat.le_of_lt hltk)) (allB_tab (fun r hr => by
                      unfold mulP
                      rw [if_pos (by omega)]
                      refine mulS_ok HKx.out ?_
                      show (((ys.drop sb).take cb).getD r z5).ok = true
                      rw [row_getD hr]
                      exact all_get HP.out (get_of (by rw [HM.out]; omega))))
                  have HAR := hid har
                  clear har
                  refine HAR.out.mono ?_
                  rintro ee w11 ⟨hAR1, hAR2, hg11⟩
                  have hz11 := hg11.size
                  have HB11 := hid (Below.grown HB10.out hg11 HB10.out.size (fun q e => by simp only [Option.some.injEq] at e; omega))
                  have HM11 := hid (HK10.out.at_ (hg11.block gm HK10.out.lt (fun e => by simp only [Option.some.injEq] at e; omega)))
                  have Ya := hid (Xa.out.grown hg11 (by intro e; simp only [Option.some.injEq] at e; omega))
                  have Yb := hid (Xb.out.grown hg11 (by intro e; simp only [Option.some.injEq] at e; omega))
                  have Yz := hid (Xz.out.grown hg11 (by intro e; simp only [Option.some.injEq] at e; omega))
                  have Yo := hid (Xo.out.grown hg11 (by intro e; simp only [Option.some.injEq] at e; omega))
                  clear Xa la ca0 ca1 ca2 Xb lb cb0 cb1 cb2 Xz lz cz0 cz1 cz2 Xo lo co0 co1 co2 fz
                  have Xa := Ya
                  have ca0 := Xa.out.c 0 rfl
                  have ca1 := Xa.out.c 1 rfl
                  have ca2 := Xa.out.c 2 rfl
                  have la := Xa.out.lt
                  have Xb := Yb
                  have cb0 := Xb.out.c 0 rfl
                  have cb1 := Xb.out.c 1 rfl
                  have cb2 := Xb.out.c 2 rfl
                  have lb := Xb.out.lt
                  have Xz := Yz
                  have cz0 := Xz.out.c 0 rfl
                  have cz1 := Xz.out.c 1 rfl
                  have cz2 := Xz.out.c 2 rfl
                  have lz := Xz.out.lt
                  have Xo := Yo
                  have co0 := Xo.out.c 0 rfl
                  have co1 := Xo.out.c 1 rfl
                  have co2 := Xo.out.c 2 rfl
                  have lo := Xo.out.lt
                  have fz := Xz.out.f
                  clear Ya Yb Yz Yo
                  clear hg11 HAR HG10 HK10 HB10
                  obtain ⟨st1, st2⟩ := mmP_step (N := N) (s := s) (prods := tab cb (mulP (fun q => ((ys.drop sb).take cb).getD q z5) x 0 cb)) (x := x) (ca := ca) (xs := xs) (ys := ys) (i := i) (k := k) (cb := cb) (by omega) HS4.out HX.out HK2.out (fun j hj => by
                      have h9 := anyB_get HNY.out hj
                      unfold mulH at h9
                      rw [PRD.out j hj] at h9; exact h9) (fun j hj => by
                      rw [getD_of (tab_get hj)]
                      unfold mulP
                      rw [if_pos (by omega)]
                      have h9 := PRD.out j hj
                      rw [Nat.zero_add] at h9
                      rw [h9])
                  cases hany2 : anyB cb (addH (mmP ca cb xs ys i k) (tab cb (mulP (fun q => ((ys.drop sb).take cb).getD q z5) x 0 cb)) s)
                  · obtain ⟨rfl, hK11⟩ := hAR2 hany2
                    rw [st1] at hK11
                    have HK11 := hid hK11
                    have HK3 : Hid (∀ j, j < cb → (mmT ca cb xs ys i j false (k + 1)).2 = false) := by
                      show ∀ j, _
                      intro j hj
                      rw [st2 j hj]; exact anyB_get hany2 hj
                    clear hAR1 hAR2 hany2 hK11 st1 st2
                    go_wp2_with (fail)
                    go_roundg m2
                    case measure => omega
                    case rel => exact ⟨k + 1, by omega, by go_num, Xa, Xb, Xz, Xo, HK11, hid ⟨_, HM11.out, tab_len _ _⟩, HK3, by omega, HB11⟩
                  · obtain rfl := hAR1 hany2
                    have bad : anyB N (mmG ca cb xs ys) = true := by
                      obtain ⟨j, hj, hjb⟩ := anyB_ex hany2
                      rw [← st2 j hj] at hjb
                      exact mmG_of EN.out hlti hj hltk hjb
                    have HBX := hid HB11.out
                    clear HB11 HM11
                    have BAD := hid bad
                    have RZ : Bx _ _ _ _ := Xz.out
                    have hBX := HBX.out
                    have hBXs := hBX.size
                    clear bad
                    go_upto_region 12 with (fail)
                    go_cut [4, 5] (fun s4 s5 wx => s4 = .pointer (some ⟨w.heap.size + 1 + 1, 0, none⟩) ∧ s5 = .bool false ∧ wx.cell? ⟨w.heap.size + 1 + 1, 0, none⟩ = some (.int .i64 0) ∧ wx.cell? ⟨w.heap.size + 1 + 1, 1, none⟩ = some (.int .i64 0) ∧ wx.cell? ⟨w.heap.size + 1 + 1, 2, none⟩ = some (.slice none 0 0) ∧ Hid (Below w.heap.size w wx))
                    case first =>
                      have RZ3 := ((RZ.set (i := 0) (u := .int .i64 0) rfl).set (i := 1) (u := .int .i64 0) rfl).set (i := 2) (u := .slice none 0 0) rfl
                      go_wp2_with (fail)
                      go_meet
                      refine ⟨rfl, rfl, RZ3.c 0 rfl, RZ3.c 1 rfl, RZ3.c 2 rfl, ?_⟩
                      show Below _ _ _
                      (repeat' (first | (with_reducible exact Below.refl _ _) | (with_reducible assumption) | (with_reducible refine Below.alloc ?_ ?_ _) | (with_reducible refine Below.drew ?_) | (with_reducible refine below_drewN ?_ _) | (with_reducible refine Below.setCell ?_ ?_ _) | (with_reducible refine chain ?_ (by assumption) ?_) | omega | (simp; done) | (simp; omega)))
                    case rest =>
                      obtain ⟨rfl, rfl, y0, y1, y2, HBc⟩ := hcut
                      clear RZ hBX hBXs HBX Xa la ca0 ca1 ca2 Xb lb cb0 cb1 cb2 Xz lz cz0 cz1 cz2 Xo lo co0 co1 co2 fz
                      apply_assumption
                      refine wp_ret ?_
                      simp only [Exit.inBlock, Exit.then]
                      refine bodyPost_ret (v := mt 0 0 none 0 0 false) (by simp only [results, Try.results73]; go_simp; done) rfl ⟨fun _ => rfl, fun h => ?_, HBc.out⟩
                      rw [BAD.out] at h; cases h
                · obtain rfl := hAR1 hany
                  have bad : anyB N (mmG ca cb xs ys) = true := by
                    obtain ⟨j, hj, hjb⟩ := anyB_ex hany
                    unfold mulH at hjb
                    rw [PRD.out j hj] at hjb
                    exact mmG_mul EN.out hlti hj hltk HX.out (HK2.out j hj) hjb
                  have HBX := hid HB10.out
                  clear HB10 HG10
                  have BAD := hid bad
                  have RZ : Bx _ _ _ _ := Xz.out
                  have hBX := HBX.out
                  have hBXs := hBX.size
                  clear bad
                  go_upto_region 12 with (fail)
                  go_cut [4, 5] (fun s4 s5 wx => s4 = .pointer (some ⟨w.heap.size + 1 + 1, 0, none⟩) ∧ s5 = .bool false ∧ wx.cell? ⟨w.heap.size + 1 + 1, 0, none⟩ = some (.int .i64 0) ∧ wx.cell? ⟨w.heap.size + 1 + 1, 1, none⟩ = some (.int .i64 0) ∧ wx.cell? ⟨w.heap.size + 1 + 1, 2, none⟩ = some (.slice none 0 0) ∧ Hid (Below w.heap.size w wx))
                  case first =>
                    have RZ3 := ((RZ.set (i := 0) (u := .int .i64 0) rfl).set (i := 1) (u := .int .i64 0) rfl).set (i := 2) (u := .slice none 0 0) rfl
                    go_wp2_with (fail)
                    go_meet
                    refine ⟨rfl, rfl, RZ3.c 0 rfl, RZ3.c 1 rfl, RZ3.c 2 rfl, ?_⟩
                    show Below _ _ _
                    (repeat' (first | (with_reducible exact Below.refl _ _) | (with_reducible assumption) | (with_reducible refine Below.alloc ?_ ?_ _) | (with_reducible refine Below.drew ?_) | (with_reducible refine below_drewN ?_ _) | (with_reducible refine Below.setCell ?_ ?_ _) | (with_reducible refine chain ?_ (by assumption) ?_) | omega | (simp; done) | (simp; omega)))
                  case rest =>
                    obtain ⟨rfl, rfl, y0, y1, y2, HBc⟩ := hcut
                    clear RZ hBX hBXs HBX Xa la ca0 ca1 ca2 Xb lb cb0 cb1 cb2 Xz lz cz0 cz1 cz2 Xo lo co0 co1 co2 fz
                    apply_assumption
                    refine wp_ret ?_
                    simp only [Exit.inBlock, Exit.then]
                    refine bodyPost_ret (v := mt 0 0 none 0 0 false) (by simp only [results, Try.results73]; go_simp; done) rfl ⟨fun _ => rfl, fun h => ?_, HBc.out⟩
                    rw [BAD.out] at h; cases h

end Go.Proofs.Ytofclfgaekjonaa
