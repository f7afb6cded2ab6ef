/- Gm, Te1, Te2 -/
import Derived.Test.YtofclfgaekjonaaZp14
import Derived.Test.YtofclfgaekjonaaZp18
import Derived.Test.YtofclfgaekjonaaZp22
import Derived.Test.YtofclfgaekjonaaZp13
import Derived.Test.YtofclfgaekjonaaZp23
import Derived.Test.YtofclfgaekjonaaZp15
namespace Go.Proofs.Ytofclfgaekjonaa
open Go.RowKit RM
set_option linter.unusedVariables false
set_option linter.unusedSimpArgs false
attribute [local irreducible] World.setCell

open GM
set_option maxRecDepth 100000 in
set_option maxHeartbeats 8000000 in
theorem gm_i {n D NN L e A B : Nat} {kd : Int} {F M : Nat → Nat → Nat} {P : Nat → Nat → Int} {Kf : Nat → FuncId} {cs : Array Value} {w : World}
    (hv : C4.vgB (n : Int) ⟨kd, (A : Int), (B : Int)⟩ = true) (h1 : 1 ≤ n) (h5 : n ≤ 5) (hD : D = 2 ^ n) (hNN : NN = D * D) (hL : L = e + 1) (he : e ≤ 1)
    (hT : ∀ W : World, Calls Try.prog 197 #[.int .i64 kd] W fun ee w' => ∃ g : Nat, ee = .returned (.slice (some ⟨g, 0, none⟩) L L) ∧ Bx w' g 210 cs ∧ W.heap.size ≤ g ∧ Below W.heap.size W w')
    (hcs : ∀ t, t < L → cs[t]? = some (.func (.func (Kf t)) #[] #[]))
    (hF : ∀ t c (W : World), t < L → c < D → Calls Try.prog (Kf t) #[.agg #[.int .i64 (n : Int), .int .i64 (c : Int), .int .i64 0], .agg #[.int .i64 kd, .int .i64 (A : Int), .int .i64 (B : Int)]] W fun ee w' => ee = .returned (.agg #[.int .i64 (n : Int), .int .i64 ((F t c : Nat) : Int), .int .i64 (P t c)]) ∧ Below W.heap.size W w')
    (hEn : ∀ t (az : Array Value) (W : World), t < L → (callFunc (Kf t) az).run Try.prog W = .ok (.enter (Kf t) az) W)
    (hFD : ∀ t c, t < L → c < D → F t c < D)
    (hP : ∀ t c, t < L → c < D → -1000 ≤ P t c ∧ P t c ≤ 1000 ∧ P t c % 8 = (M t c : Int) ∧ M t c < 8) :
    Calls Try.prog 163 #[.int .i64 (n : Int), .agg #[.int .i64 kd, .int .i64 (A : Int), .int .i64 (B : Int)]] w fun ee w' => ∃ g : Nat, ee = .returned (mt (D : Int) (D : Int) (some ⟨g, 0, none⟩) NN NN true) ∧ Bk w' g 99 (tab NN (gP F M e D L D 0)) ∧ w.heap.size ≤ g ∧ Below w.heap.size w w' := by
  obtain ⟨d2, d32, dw, dw2, dd⟩ := pow_dim h1 h5 hD
  have nn5 : NN ≤ 1024 := by rw [hNN]; exact Nat.mul_le_mul d32 d32
  have HV := hid hv
  have EN := hid hNN
  have EL := hid hL
  have HT := hid hT
  have HCS := hid hcs
  have HF := hid hF
  have HFD := hid hFD
  have HP := hid hP
  have HEN := hid hEn
  have HDD := hid hD
  have n5 : (n : Int) ≤ 5 := by omega
  clear hv hNN hT hcs hF hFD hP hL hD dd hEn
  go_enter Try.func163, Try.ntmps163
  go_wp2_with (fail)
  refine (C4.ivg HV.out _).mono ?_
  rintro ee w1 ⟨rfl, hb1⟩
  have hz1 := hb1.size
  (try simp only [World.size_alloc] at hz1)
  have Xg1 : Hid (Bx w1 (w.heap.size) 150 #[.int .i64 kd, .int .i64 (A : Int), .int .i64 (B : Int)]) := by show Bx _ _ _ _; (repeat' (first | (with_reducible assumption) | (refine Bx.new (by first | (with_reducible rfl) | (simp; done))) | (with_reducible refine Bx.alloc ?_ _) | (with_reducible refine Bx.drew ?_) | (with_reducible refine Bx.drewN ?_ _) | (with_reducible refine Bx.mono ?_ (by assumption)) | (with_reducible refine Bx.badly ?_ (by assumption) (by omega)) | (with_reducible refine Bx.far ?_ (by (try simp only [World.size_alloc, World.size_drew]); omega)) | (with_reducible refine Bx.set ?_ rfl) | (with_reducible refine Bx.grown ?_ (by assumption) (by assumption))))
  have Xz1 : Hid (Bx w1 (w.heap.size + 1) 30 #[.int .i64 0, .int .i64 0, .slice none 0 0]) := by show Bx _ _ _ _; (repeat' (first | (with_reducible assumption) | (refine Bx.new (by first | (with_reducible rfl) | (simp; done))) | (with_reducible refine Bx.alloc ?_ _) | (with_reducible refine Bx.drew ?_) | (with_reducible refine Bx.drewN ?_ _) | (with_reducible refine Bx.mono ?_ (by assumption)) | (with_reducible refine Bx.badly ?_ (by assumption) (by omega)) | (with_reducible refine Bx.far ?_ (by (try simp only [World.size_alloc, World.size_drew]); omega)) | (with_reducible refine Bx.set ?_ rfl) | (with_reducible refine Bx.grown ?_ (by assumption) (by assumption))))
  have hw1 : Below w.heap.size w w1 := by (repeat' (first | (with_reducible exact Below.refl _ _) | (with_reducible assumption) | (with_reducible refine Below.alloc ?_ ?_ _) | (with_reducible refine Below.drew ?_) | (with_reducible refine below_drewN ?_ _) | (with_reducible refine Below.setCell ?_ ?_ _) | (with_reducible refine chain ?_ (by assumption) ?_) | omega | (simp; done) | (simp; omega)))
  have cg0 := Xg1.out.c 0 rfl
  have cz0 := Xz1.out.c 0 rfl
  have cg1 := Xg1.out.c 1 rfl
  have cz1 := Xz1.out.c 1 rfl
  have cg2 := Xg1.out.c 2 rfl
  have cz2 := Xz1.out.c 2 rfl
  have lg := Xg1.out.lt
  have lz := Xz1.out.lt
  have fz := Xz1.out.f
  clear hb1
  go_wp2_with (fail)
  go_cut [6, 7] (fun s6 s7 wx => ∃ bo gz gt : Nat, s6 = .pointer (some ⟨bo, 0, none⟩) ∧ s7 = .slice (some ⟨gt, 0, none⟩) L L ∧ Hid (Bx wx bo 30 #[.int .i64 (D : Int), .int .i64 (D : Int), .slice (some ⟨gz, 0, none⟩) NN NN]) ∧ Hid (Bk wx gz 99 (List.replicate NN z5)) ∧ Hid (Bx wx gt 210 cs) ∧ Hid (bo ≠ gz ∧ bo ≠ gt ∧ gz ≠ gt ∧ w1.heap.size ≤ bo ∧ w1.heap.size ≤ gz ∧ w1.heap.size ≤ gt) ∧ Hid (Below w1.heap.size w1 wx))
  case first =>
    have ycg0 : w1.drew.cell? ⟨w.heap.size, 0, none⟩ = some (.int .i64 kd) := cg0
    have ycg1 : w1.drew.cell? ⟨w.heap.size, 1, none⟩ = some (.int .i64 (A : Int)) := cg1
    refine wp_region_x (fun w' => w'.cell? ⟨w.heap.size, 0, none⟩ = some (.int .i64 kd) ∧ w'.cell? ⟨w.heap.size, 1, none⟩ = some (.int .i64 (A : Int))) 1000 (by kernel_rfl) ⟨ycg0, ycg1⟩ (fun hS0 => ?_)
    refine wpAnyX_take (i := 0) (oi := _) (v := ?_) rfl (by kernel_rfl) (by kernel_rfl) (by kernel_rfl) (by kernel_rfl) (fun _ _ _ h => h) (Or.inl ⟨by rfl, ?_⟩) hS0 ?_
    rotate_left 1
    · (intro w hSw; (try dsimp only at hSw); go_simp; (try with_reducible rfl))
    try simp only [Act.put, List.setIfInBounds_toArray, List.set_cons_zero, List.set_cons_succ]
    refine wpAnyX_take (i := 1) (oi := _) (v := ?_) rfl (by kernel_rfl) (by kernel_rfl) (by kernel_rfl) (by kernel_rfl) (fun _ _ _ h => h) (Or.inl ⟨by rfl, ?_⟩) hS0 ?_
    rotate_left 1
    · (intro w hSw; (try dsimp only at hSw); go_simp; (try with_reducible rfl))
    try simp only [Act.put, List.setIfInBounds_toArray, List.set_cons_zero, List.set_cons_succ]
    refine wpAnyX_take (i := 2) (oi := _) (v := ?_) rfl (by kernel_rfl) (by kernel_rfl) (by kernel_rfl) (by kernel_rfl) (fun _ _ _ h => h) (Or.inl ⟨by rfl, ?_⟩) hS0 ?_
    rotate_left 1
    · (intro w hSw; (try dsimp only at hSw); go_simp; (try with_reducible rfl))
    try simp only [Act.put, List.setIfInBounds_toArray, List.set_cons_zero, List.set_cons_succ]
    refine wpAnyX_take (i := 3) (oi := _) (v := ?_) rfl (by kernel_rfl) (by kernel_rfl) (by kernel_rfl) (by kernel_rfl) (fun _ _ _ h => h) (Or.inl ⟨by rfl, ?_⟩) hS0 ?_
    rotate_left 1
    · (intro w hSw; (try dsimp only at hSw); go_simp; (try with_reducible rfl))
    try simp only [Act.put, List.setIfInBounds_toArray, List.set_cons_zero, List.set_cons_succ]
    refine wpAnyX_take (i := 5) (oi := _) (v := ?_) rfl (by kernel_rfl) (by kernel_rfl) (by kernel_rfl) (by kernel_rfl) (fun _ _ _ h => h) (Or.inl ⟨by rfl, ?_⟩) hS0 ?_
    rotate_left 1
    · (intro w hSw; (try dsimp only at hSw); go_simp; (try with_reducible rfl))
    try simp only [Act.put, List.setIfInBounds_toArray, List.set_cons_zero, List.set_cons_succ]
    refine wpAnyX_take (i := 6) (oi := _) (v := ?_) rfl (by kernel_rfl) (by kernel_rfl) (by kernel_rfl) (by kernel_rfl) (fun _ _ _ h => h) (Or.inl ⟨by rfl, ?_⟩) hS0 ?_
    rotate_left 1
    · (intro w hSw; (try dsimp only at hSw); go_simp; (try with_reducible rfl))
    try simp only [Act.put, List.setIfInBounds_toArray, List.set_cons_zero, List.set_cons_succ]
    refine wpAnyX_two (i := 4) (j := 8) (oi := _) (oj := _) rfl rfl (by kernel_rfl) (fun K hK => ?_) (fun K hK => ?_)
    · go_simp
      refine (zm (r := D) (c := D) (n := NN) (by rw [EN.out]; simp) nn5).mono ?_
      rintro ee v0 ⟨gz, rfl, hK0, hg0, hv00⟩
      have hv0 := undrewK hv00
      have hzv0 := hv0.size
      have hlz := hK0.lt
      (try simp only [World.size_alloc, World.size_drew] at hg0 hzv0)
      refine hK.out _ _ (fun _ => ?_) (fun hS1 => ?_)
      · exact ⟨kc hv00 hS0.1, kc hv00 hS0.2⟩
      clear hK K
      have hS1 := hS1 (by decide)
      try simp only [Act.put, List.setIfInBounds_toArray, List.set_cons_zero, List.set_cons_succ]
      refine wpAnyX_two (i := 7) (j := 8) (oi := _) (oj := _) rfl rfl (by kernel_rfl) (fun K hK => ?_) (fun K hK => ?_)
      · go_simp
        refine (HT.out _).mono ?_
        rintro ee v1 ⟨gt, rfl, hX1, hg1, hv1⟩
        have hzv1 := hv1.size
        have hlt1 := hX1.lt
        (try simp only [World.size_alloc] at hg1 hzv1)
        refine hK.out _ _ (fun _ => ?_) (fun hS2 => ?_)
        · exact ⟨kc hv1 hS1.1, kc hv1 hS1.2⟩
        clear hK K
        have hS2 := hS2 (by decide)
        try simp only [Act.put, List.setIfInBounds_toArray, List.set_cons_zero, List.set_cons_succ]
        refine wpAnyX_one (i := 8) (o := _) rfl (by kernel_rfl) (fun K hK => ?_)
        go_simp
        refine hK.out _ _ (fun _ => ?_) (fun hS3 => ?_)
        · first | exact ⟨kal hS2.1, kal hS2.2⟩ | exact ⟨kald hS2.1, kald hS2.2⟩
        clear hK K
        have hS3 := hS3 (by decide)
        try simp only [Act.put, List.setIfInBounds_toArray, List.set_cons_zero, List.set_cons_succ]
        refine wpAnyX_one (i := 9) (o := _) rfl (by kernel_rfl) (fun K hK => ?_)
        go_simp
        refine hK.out _ _ (fun _ => ?_) (fun hS4 => ?_)
        · first | exact ⟨kst3 (by omega) hS3.1, kst3 (by omega) hS3.2⟩ | exact ⟨kre (by omega) hS3.1, kre (by omega) hS3.2⟩ | exact ⟨kal hS3.1, kal hS3.2⟩
        clear hK K
        have hS4 := hS4 (by decide)
        try simp only [Act.put, List.setIfInBounds_toArray, List.set_cons_zero, List.set_cons_succ]
        refine wpAnyX_take (i := 10) (oi := _) (v := ?_) rfl (by kernel_rfl) (by kernel_rfl) (by kernel_rfl) (by kernel_rfl) (fun _ _ _ h => h) (Or.inl ⟨by rfl, ?_⟩) hS4 ?_
        rotate_left 1
        · (intro w hSw; (try dsimp only at hSw); go_simp; (try with_reducible rfl))
        change wpAnyX _ _ _ _ _ _ _ _ (Act.put _ (some 7) _) _
        try simp only [Act.put, List.setIfInBounds_toArray, List.set_cons_zero, List.set_cons_succ]
        refine wpAnyX_done (by kernel_rfl) ?_ _
        go_wp2_with fail
        go_meet
        refine ⟨_, gz, gt, rfl, rfl, ?_, ?_, ?_, ?_, ?_⟩
        · show Bx _ _ _ _
          (first | exact (Bx.set (i := 2) (u := .slice (some ⟨gz, 0, none⟩) NN NN) (Bx.set (i := 1) (u := .int .i64 (D : Int)) (Bx.set (i := 0) (u := .int .i64 (D : Int)) (Bx.new (cs := #[.int .i64 0, .int .i64 0, .slice none 0 0]) (by first | rfl | (simp; done))) rfl) rfl) rfl) | exact (Bx.new (cs := #[.int .i64 (D : Int), .int .i64 (D : Int), .slice (some ⟨gz, 0, none⟩) NN NN]) (by first | rfl | (simp; done))))
        · show Bk _ _ _ _
          (first | exact (Bk.far (Bk.far (Bk.far (Bk.alloc (Bk.mono hK0 hv1) _) (by (try dsimp only); omega) _) (by (try dsimp only); omega) _) (by (try dsimp only); omega) _) | exact (Bk.alloc (Bk.mono hK0 hv1) _))
        · show Bx _ _ _ _
          (first | exact (Bx.far (Bx.far (Bx.far (Bx.alloc hX1 _) (by omega)) (by omega)) (by omega)) | exact (Bx.alloc hX1 _))
        · show _ ∧ _
          refine ⟨?_, ?_, ?_, ?_, ?_, ?_⟩ <;> omega
        · show Below _ _ _
          (repeat' (first | (with_reducible exact Below.refl _ _) | (with_reducible assumption) | (with_reducible refine Below.alloc ?_ ?_ _) | (with_reducible refine Below.drew ?_) | (with_reducible refine below_drewN ?_ _) | (with_reducible refine Below.setCell ?_ ?_ _) | (with_reducible refine chain ?_ (by assumption) ?_) | omega | (simp; done) | (simp; omega)))
      · go_simp
        refine hK.out _ _ (fun _ => ?_) (fun hS2 => ?_)
        · first | exact ⟨kal hS1.1, kal hS1.2⟩ | exact ⟨kald hS1.1, kald hS1.2⟩
        clear hK K
        have hS2 := hS2 (by decide)
        try simp only [Act.put, List.setIfInBounds_toArray, List.set_cons_zero, List.set_cons_succ]
        refine wpAnyX_one (i := 7) (o := _) rfl (by kernel_rfl) (fun K hK => ?_)
        go_simp
        refine (HT.out _).mono ?_
        rintro ee v1 ⟨gt, rfl, hX1, hg1, hv1⟩
        have hzv1 := hv1.size
        have hlt1 := hX1.lt
        (try simp only [World.size_alloc] at hg1 hzv1)
        refine hK.out _ _ (fun _ => ?_) (fun hS3 => ?_)
        · exact ⟨kc hv1 hS2.1, kc hv1 hS2.2⟩
        clear hK K
        have hS3 := hS3 (by decide)
        try simp only [Act.put, List.setIfInBounds_toArray, List.set_cons_zero, List.set_cons_succ]
        refine wpAnyX_one (i := 9) (o := _) rfl (by kernel_rfl) (fun K hK => ?_)
        have XB : Bx _ (v0.heap.size) 30 #[.int .i64 0, .int .i64 0, .slice none 0 0] := (Bx.mono (Bx.new (by first | rfl | (simp; done))) hv1)
        have xb0 := XB.c 0 rfl
        have xb1 := XB.c 1 rfl
        have xb2 := XB.c 2 rfl
        have xbf := XB.f
        have xbl := XB.lt
        go_simp
        refine hK.out _ _ (fun _ => ?_) (fun hS4 => ?_)
        · first | exact ⟨kst3 (by omega) hS3.1, kst3 (by omega) hS3.2⟩ | exact ⟨kre (by omega) hS3.1, kre (by omega) hS3.2⟩ | exact ⟨kal hS3.1, kal hS3.2⟩
        clear hK K
        have hS4 := hS4 (by decide)
        try simp only [Act.put, List.setIfInBounds_toArray, List.set_cons_zero, List.set_cons_succ]
        refine wpAnyX_take (i := 10) (oi := _) (v := ?_) rfl (by kernel_rfl) (by kernel_rfl) (by kernel_rfl) (by kernel_rfl) (fun _ _ _ h => h) (Or.inl ⟨by rfl, ?_⟩) hS4 ?_
        rotate_left 1
        · (intro w hSw; (try dsimp only at hSw); go_simp; (try with_reducible rfl))
        change wpAnyX _ _ _ _ _ _ _ _ (Act.put _ (some 7) _) _
        try simp only [Act.put, List.setIfInBounds_toArray, List.set_cons_zero, List.set_cons_succ]
        refine wpAnyX_done (by kernel_rfl) ?_ _
        go_wp2_with fail
        go_meet
        refine ⟨_, gz, gt, rfl, rfl, ?_, ?_, ?_, ?_, ?_⟩
        · show Bx _ _ _ _
          (first | exact (Bx.set (i := 2) (u := .slice (some ⟨gz, 0, none⟩) NN NN) (Bx.set (i := 1) (u := .int .i64 (D : Int)) (Bx.set (i := 0) (u := .int .i64 (D : Int)) (Bx.mono (Bx.new (cs := #[.int .i64 0, .int .i64 0, .slice none 0 0]) (by first | rfl | (simp; done))) hv1) rfl) rfl) rfl) | exact (Bx.mono (Bx.new (cs := #[.int .i64 (D : Int), .int .i64 (D : Int), .slice (some ⟨gz, 0, none⟩) NN NN]) (by first | rfl | (simp; done))) hv1))
        · show Bk _ _ _ _
          (first | exact (Bk.far (Bk.far (Bk.far (Bk.mono (Bk.alloc hK0 _) hv1) (by (try dsimp only); omega) _) (by (try dsimp only); omega) _) (by (try dsimp only); omega) _) | exact (Bk.mono (Bk.alloc hK0 _) hv1))
        · show Bx _ _ _ _
          (first | exact (Bx.far (Bx.far (Bx.far hX1 (by omega)) (by omega)) (by omega)) | exact hX1)
        · show _ ∧ _
          refine ⟨?_, ?_, ?_, ?_, ?_, ?_⟩ <;> omega
        · show Below _ _ _
          (repeat' (first | (with_reducible exact Below.refl _ _) | (with_reducible assumption) | (with_reducible refine Below.alloc ?_ ?_ _) | (with_reducible refine Below.drew ?_) | (with_reducible refine below_drewN ?_ _) | (with_reducible refine Below.setCell ?_ ?_ _) | (with_reducible refine chain ?_ (by assumption) ?_) | omega | (simp; done) | (simp; omega)))
    · go_simp
      refine hK.out _ _ (fun _ => ?_) (fun hS1 => ?_)
      · first | exact ⟨kal hS0.1, kal hS0.2⟩ | exact ⟨kald hS0.1, kald hS0.2⟩
      clear hK K
      have hS1 := hS1 (by decide)
      try simp only [Act.put, List.setIfInBounds_toArray, List.set_cons_zero, List.set_cons_succ]
      refine wpAnyX_one (i := 4) (o := _) rfl (by kernel_rfl) (fun K hK => ?_)
      go_simp
      refine (zm (r := D) (c := D) (n := NN) (by rw [EN.out]; simp) nn5).mono ?_
      rintro ee v0 ⟨gz, rfl, hK0, hg0, hv00⟩
      have hv0 := undrewK hv00
      have hzv0 := hv0.size
      have hlz := hK0.lt
      (try simp only [World.size_alloc, World.size_drew] at hg0 hzv0)
      refine hK.out _ _ (fun _ => ?_) (fun hS2 => ?_)
      · exact ⟨kc hv00 hS1.1, kc hv00 hS1.2⟩
      clear hK K
      have hS2 := hS2 (by decide)
      try simp only [Act.put, List.setIfInBounds_toArray, List.set_cons_zero, List.set_cons_succ]
      refine wpAnyX_one (i := 7) (o := _) rfl (by kernel_rfl) (fun K hK => ?_)
      go_simp
      refine (HT.out _).mono ?_
      rintro ee v1 ⟨gt, rfl, hX1, hg1, hv1⟩
      have hzv1 := hv1.size
      have hlt1 := hX1.lt
      (try simp only [World.size_alloc] at hg1 hzv1)
      refine hK.out _ _ (fun _ => ?_) (fun hS3 => ?_)
      · exact ⟨kc hv1 hS2.1, kc hv1 hS2.2⟩
      clear hK K
      have hS3 := hS3 (by decide)
      try simp only [Act.put, List.setIfInBounds_toArray, List.set_cons_zero, List.set_cons_succ]
      refine wpAnyX_one (i := 9) (o := _) rfl (by kernel_rfl) (fun K hK => ?_)
      have XB : Bx _ (w1.heap.size) 30 #[.int .i64 0, .int .i64 0, .slice none 0 0] := (Bx.mono (Bx.mono (Bx.new (by first | rfl | (simp; done))) hv0) hv1)
      have xb0 := XB.c 0 rfl
      have xb1 := XB.c 1 rfl
      have xb2 := XB.c 2 rfl
      have xbf := XB.f
      have xbl := XB.lt
      go_simp
      refine hK.out _ _ (fun _ => ?_) (fun hS4 => ?_)
      · first | exact ⟨kst3 (by omega) hS3.1, kst3 (by omega) hS3.2⟩ | exact ⟨kre (by omega) hS3.1, kre (by omega) hS3.2⟩ | exact ⟨kal hS3.1, kal hS3.2⟩
      clear hK K
      have hS4 := hS4 (by decide)
      try simp only [Act.put, List.setIfInBounds_toArray, List.set_cons_zero, List.set_cons_succ]
      refine wpAnyX_take (i := 10) (oi := _) (v := ?_) rfl (by kernel_rfl) (by kernel_rfl) (by kernel_rfl) (by kernel_rfl) (fun _ _ _ h => h) (Or.inl ⟨by rfl, ?_⟩) hS4 ?_
      rotate_left 1
      · (intro w hSw; (try dsimp only at hSw); go_simp; (try with_reducible rfl))
      change wpAnyX _ _ _ _ _ _ _ _ (Act.put _ (some 7) _) _
      try simp only [Act.put, List.setIfInBounds_toArray, List.set_cons_zero, List.set_cons_succ]
      refine wpAnyX_done (by kernel_rfl) ?_ _
      go_wp2_with fail
      go_meet
      refine ⟨_, gz, gt, rfl, rfl, ?_, ?_, ?_, ?_, ?_⟩
      · show Bx _ _ _ _
        (first | exact (Bx.set (i := 2) (u := .slice (some ⟨gz, 0, none⟩) NN NN) (Bx.set (i := 1) (u := .int .i64 (D : Int)) (Bx.set (i := 0) (u := .int .i64 (D : Int)) (Bx.mono (Bx.mono (Bx.new (cs := #[.int .i64 0, .int .i64 0, .slice none 0 0]) (by first | rfl | (simp; done))) hv0) hv1) rfl) rfl) rfl) | exact (Bx.mono (Bx.mono (Bx.new (cs := #[.int .i64 (D : Int), .int .i64 (D : Int), .slice (some ⟨gz, 0, none⟩) NN NN]) (by first | rfl | (simp; done))) hv0) hv1))
      · show Bk _ _ _ _
        (first | exact (Bk.far (Bk.far (Bk.far (Bk.mono hK0 hv1) (by (try dsimp only); omega) _) (by (try dsimp only); omega) _) (by (try dsimp only); omega) _) | exact (Bk.mono hK0 hv1))
      · show Bx _ _ _ _
        (first | exact (Bx.far (Bx.far (Bx.far hX1 (by omega)) (by omega)) (by omega)) | exact hX1)
      · show _ ∧ _
        refine ⟨?_, ?_, ?_, ?_, ?_, ?_⟩ <;> omega
      · show Below _ _ _
        (repeat' (first | (with_reducible exact Below.refl _ _) | (with_reducible assumption) | (with_reducible refine Below.alloc ?_ ?_ _) | (with_reducible refine Below.drew ?_) | (with_reducible refine below_drewN ?_ _) | (with_reducible refine Below.setCell ?_ ?_ _) | (with_reducible refine chain ?_ (by assumption) ?_) | omega | (simp; done) | (simp; omega)))
  case rest =>
    obtain ⟨w5, rfl⟩ : ∃ w5, w5 = wc := ⟨_, rfl⟩
    obtain ⟨bo, gz, gt, rfl, rfl, Xo, HGZ, HGT, HDI, HB5⟩ := hcut
    obtain ⟨n1, n2, n3, n4, n5', n6⟩ := HDI.out
    have hz5 := HB5.out.size
    have lgz5 := HGZ.out.lt
    have lgt5 := HGT.out.lt
    have hw5 : Below w.heap.size w w5 := chain hw1 HB5.out hw1.size
    have Xg := hid (Xg1.out.mono HB5.out)
    have Xz := hid (Xz1.out.mono HB5.out)
    clear Xg1 Xz1 cg0 cg1 cg2 cz0 cz1 cz2 lg lz fz HDI HB5
    have cg0 := Xg.out.c 0 rfl
    have cg1 := Xg.out.c 1 rfl
    have cg2 := Xg.out.c 2 rfl
    have lg := Xg.out.lt
    have cz0 := Xz.out.c 0 rfl
    have cz1 := Xz.out.c 1 rfl
    have cz2 := Xz.out.c 2 rfl
    have lz := Xz.out.lt
    have fz := Xz.out.f
    have co0 := Xo.out.c 0 rfl
    have co1 := Xo.out.c 1 rfl
    have co2 := Xo.out.c 2 rfl
    have lo := Xo.out.lt
    have n7 : bo < w5.heap.size := lo
    go_wp2_with (fail)
    go_loopg [28] D (fun q s1 wo => ∃ j : Nat, j + q = D ∧ s1 = .int .i64 (j : Int) ∧ Hid (Bx wo (w.heap.size) 150 #[.int .i64 kd, .int .i64 (A : Int), .int .i64 (B : Int)]) ∧ Hid (Bx wo (w.heap.size + 1) 30 #[.int .i64 0, .int .i64 0, .slice none 0 0]) ∧ Hid (Bx wo (bo) 30 #[.int .i64 (D : Int), .int .i64 (D : Int), .slice (some ⟨gz, 0, none⟩) NN NN]) ∧ Hid (Bk wo gz 99 (tab NN (gP F M e D L j 0))) ∧ Hid (Bx wo gt 210 cs) ∧ w5.heap.size ≤ wo.heap.size ∧ Below w.heap.size w wo)
    case atStart =>
      refine ⟨0, by omega, rfl, Xg, Xz, Xo, ?_, HGT, Nat.le_refl _, hw5⟩
      show Bk _ _ _ _
      rw [gP_0]; exact HGZ.out
    case round =>
      clear HGZ HGT hw5 Xg lg cg0 cg1 cg2 Xz lz cz0 cz1 cz2 Xo lo co0 co1 co2 fz
      obtain ⟨j, hj, rfl, Xg, Xz, Xo, HG, XT, hsz, hB⟩ := hrel
      have cg0 := Xg.out.c 0 rfl
      have cg1 := Xg.out.c 1 rfl
      have cg2 := Xg.out.c 2 rfl
      have lg := Xg.out.lt
      have cz0 := Xz.out.c 0 rfl
      have cz1 := Xz.out.c 1 rfl
      have cz2 := Xz.out.c 2 rfl
      have lz := Xz.out.lt
      have fz := Xz.out.f
      have co0 := Xo.out.c 0 rfl
      have co1 := Xo.out.c 1 rfl
      have co2 := Xo.out.c 2 rfl
      have lo := Xo.out.lt
      cases gk with
      | zero =>
        obtain rfl : j = D := by omega
        have hBq := hB.size
        go_wp2_with (fail)
        refine bodyPost_ret (v := mt (j : Int) (j : Int) (some ⟨gz, 0, none⟩) NN NN true) (by first | (simp [results, Try.results163, go_sem, *]; done) | (simp (disch := (first | omega | (simp; done) | (simp; omega))) [results, Try.results163, go_sem, *]; done) | (simp only [results, Try.results163]; go_simp; done)) rfl ⟨gz, rfl, ?_, ?_, ?_⟩
        · (repeat' (first | exact HG.out | refine Bk.far ?_ (by show gz ≠ w.heap.size + 1; omega) _))
        · omega
        · (repeat' (first | (with_reducible exact Below.refl _ _) | (with_reducible assumption) | (with_reducible refine Below.alloc ?_ ?_ _) | (with_reducible refine Below.drew ?_) | (with_reducible refine below_drewN ?_ _) | (with_reducible refine Below.setCell ?_ ?_ _) | (with_reducible refine chain ?_ (by assumption) ?_) | omega | (simp; done) | (simp; omega)))
      | succ m9 =>
        have hltj : j < D := by omega
        have j1 : (j : Int) < (D : Int) := by omega
        have hBq := hB.size
        have l1 : (L : Int) = (e : Int) + 1 := by have := EL.out; omega
        have l2 : L ≤ 2 := by have := EL.out; omega
        go_wp2_with (fail)
        go_loopg [33] L (fun q s1 wi => ∃ t : Nat, t + q = L ∧ s1 = .int .i64 (t : Int) ∧ Hid (Bx wi (w.heap.size) 150 #[.int .i64 kd, .int .i64 (A : Int), .int .i64 (B : Int)]) ∧ Hid (Bx wi (w.heap.size + 1) 30 #[.int .i64 0, .int .i64 0, .slice none 0 0]) ∧ Hid (Bx wi (bo) 30 #[.int .i64 (D : Int), .int .i64 (D : Int), .slice (some ⟨gz, 0, none⟩) NN NN]) ∧ Hid (Bk wi gz 99 (tab NN (gP F M e D L j t))) ∧ Hid (Bx wi gt 210 cs) ∧ w5.heap.size ≤ wi.heap.size ∧ Below w.heap.size w wi)
        case atStart => exact ⟨0, by omega, rfl, Xg, Xz, Xo, HG, XT, hsz, hB⟩
        case round =>
          clear HG XT hsz hB hBq Xg lg cg0 cg1 cg2 Xz lz cz0 cz1 cz2 Xo lo co0 co1 co2 fz
          obtain ⟨t, ht, rfl, Xg, Xz, Xo, HG, XT, hsz, hB⟩ := hrel
          have cg0 := Xg.out.c 0 rfl
          have cg1 := Xg.out.c 1 rfl
          have cg2 := Xg.out.c 2 rfl
          have lg := Xg.out.lt
          have cz0 := Xz.out.c 0 rfl
          have cz1 := Xz.out.c 1 rfl
          have cz2 := Xz.out.c 2 rfl
          have lz := Xz.out.lt
          have fz := Xz.out.f
          have co0 := Xo.out.c 0 rfl
          have co1 := Xo.out.c 1 rfl
          have co2 := Xo.out.c 2 rfl
          have lo := Xo.out.lt
          cases gk with
          | zero =>
            obtain rfl : t = L := by omega
            go_wp2_with (fail)
            go_roundg m9
            case measure => omega
            case rel =>
              refine ⟨j + 1, by omega, by go_num, Xg, Xz, Xo, ?_, XT, hsz, hB⟩
              show Bk _ _ _ _
              rw [← gP_next]; exact HG.out
          | succ m2 =>
            have hltt : t < L := by omega
            have t1 : (t : Int) < (L : Int) := by omega
            have hBq := hB.size
            have lgz := HG.out.lt
            have lgt := XT.out.lt
            have hfc := HCS.out t hltt
            have hen := fun az W => HEN.out t az W hltt
            have cf := XT.out.c t hfc
            obtain ⟨p1, p2, p3, p4⟩ := HP.out t j hltt hltj
            have hFl := HFD.out t j hltt hltj
            obtain ⟨s, s1, s2, s3, s4⟩ := row_at (i := F t j) EN.out hFl
            have SS1 := hid s1
            have SS2 := hid s2
            have SS4 := hid s4
            have P3 := hid p3
            clear hfc s1 s2 s4 p3
            go_wp2_with (fail)
            clear hen
            refine (HF.out t j _ hltt hltj).mono ?_
            rintro ee w8 ⟨rfl, hb8⟩
            have hz8 := hb8.size
            have hB8 : Below w.heap.size w w8 := chain hB hb8 hBq
            have Yg := hid (Xg.out.mono hb8)
            have Yz := hid (Xz.out.mono hb8)
            have Yo := hid (Xo.out.mono hb8)
            have YG := hid (HG.out.mono hb8)
            have YT := hid (XT.out.mono hb8)
            clear Xg Xz Xo HG XT cf lg cg0 cg1 cg2 lz cz0 cz1 cz2 lo co0 co1 co2 fz
            obtain ⟨Xg, Xz, Xo, HG, XT⟩ : _ ∧ _ ∧ _ ∧ _ ∧ _ := ⟨Yg, Yz, Yo, YG, YT⟩
            clear Yg Yz Yo YG YT
            go_wp2_with (fail)
            refine (omp (m := M t j) p4 P3.out p1 p2).mono ?_
            rintro ee w9 ⟨rfl, hb9⟩
            have Xi : Bx w9 w8.heap.size 128 #[.int .i64 (n : Int), .int .i64 ((F t j : Nat) : Int), .int .i64 (P t j)] := Bx.mono (Bx.new rfl) hb9
            have hz9 := hb9.size
            (try simp only [World.size_alloc] at hz9)
            have hb89 : Below w8.heap.size w8 w9 := chain ((Below.refl _ _).alloc (Nat.le_refl _) _) hb9 (by simp)
            go_upto_region 13 with (fail)
            obtain ⟨W, hW⟩ : ∃ W : World, W = w9.alloc (.cells #[.int .i64 (omP (M t j)).a, .int .i64 (omP (M t j)).b, .int .i64 (omP (M t j)).c, .int .i64 (omP (M t j)).d, .int .i64 (e : Int)] 99) := ⟨_, rfl⟩
            have hbW : Below w8.heap.size w8 W := by rw [hW]; exact hb89.alloc hb89.size _
            have Xc : Bx W w9.heap.size 99 #[.int .i64 (omP (M t j)).a, .int .i64 (omP (M t j)).b, .int .i64 (omP (M t j)).c, .int .i64 (omP (M t j)).d, .int .i64 (e : Int)] := by rw [hW]; exact Bx.new rfl
            have Yi : Bx W w8.heap.size 128 #[.int .i64 (n : Int), .int .i64 ((F t j : Nat) : Int), .int .i64 (P t j)] := by rw [hW]; exact Xi.alloc _
            have hzW : w9.heap.size < W.heap.size := by rw [hW]; simp
            rw [← hW]
            clear hW Xi hb9
            have hBW : Below w.heap.size w W := chain hB8 hbW hB8.size
            have Yg := hid (Xg.out.mono hbW)
            have Yz := hid (Xz.out.mono hbW)
            have Yo := hid (Xo.out.mono hbW)
            have YG := hid (HG.out.mono hbW)
            have YT := hid (XT.out.mono hbW)
            clear Xg Xz Xo HG XT
            have co0 := Yo.out.c 0 rfl
            have co1 := Yo.out.c 1 rfl
            have co2 := Yo.out.c 2 rfl
            have ci0 := Yi.c 0 rfl
            have ci1 := Yi.c 1 rfl
            have ci2 := Yi.c 2 rfl
            have cc0 := Xc.c 0 rfl
            have cc1 := Xc.c 1 rfl
            have cc2 := Xc.c 2 rfl
            have cc3 := Xc.c 3 rfl
            have cc4 := Xc.c 4 rfl
            have yco0 : W.drew.cell? ⟨bo, 0, none⟩ = some (.int .i64 (D : Int)) := co0
            have yco1 : W.drew.cell? ⟨bo, 1, none⟩ = some (.int .i64 (D : Int)) := co1
            have yco2 : W.drew.cell? ⟨bo, 2, none⟩ = some (.slice (some ⟨gz, 0, none⟩) NN NN) := co2
            have yci0 : W.drew.cell? ⟨w8.heap.size, 0, none⟩ = some (.int .i64 (n : Int)) := ci0
            have yci1 : W.drew.cell? ⟨w8.heap.size, 1, none⟩ = some (.int .i64 ((F t j : Nat) : Int)) := ci1
            have yci2 : W.drew.cell? ⟨w8.heap.size, 2, none⟩ = some (.int .i64 (P t j)) := ci2
            have ycc0 : W.drew.cell? ⟨w9.heap.size, 0, none⟩ = some (.int .i64 (omP (M t j)).a) := cc0
            have ycc1 : W.drew.cell? ⟨w9.heap.size, 1, none⟩ = some (.int .i64 (omP (M t j)).b) := cc1
            have ycc2 : W.drew.cell? ⟨w9.heap.size, 2, none⟩ = some (.int .i64 (omP (M t j)).c) := cc2
            have ycc3 : W.drew.cell? ⟨w9.heap.size, 3, none⟩ = some (.int .i64 (omP (M t j)).d) := cc3
            have ycc4 : W.drew.cell? ⟨w9.heap.size, 4, none⟩ = some (.int .i64 (e : Int)) := cc4
            refine wp_region_x (fun w' => w'.cell? ⟨bo, 0, none⟩ = some (.int .i64 (D : Int)) ∧ w'.cell? ⟨bo, 1, none⟩ = some (.int .i64 (D : Int)) ∧ w'.cell? ⟨bo, 2, none⟩ = some (.slice (some ⟨gz, 0, none⟩) NN NN) ∧ w'.cell? ⟨w8.heap.size, 0, none⟩ = some (.int .i64 (n : Int)) ∧ w'.cell? ⟨w8.heap.size, 1, none⟩ = some (.int .i64 ((F t j : Nat) : Int)) ∧ w'.cell? ⟨w8.heap.size, 2, none⟩ = some (.int .i64 (P t j)) ∧ w'.cell? ⟨w9.heap.size, 0, none⟩ = some (.int .i64 (omP (M t j)).a) ∧ w'.cell? ⟨w9.heap.size, 1, none⟩ = some (.int .i64 (omP (M t j)).b) ∧ w'.cell? ⟨w9.heap.size, 2, none⟩ = some (.int .i64 (omP (M t j)).c) ∧ w'.cell? ⟨w9.heap.size, 3, none⟩ = some (.int .i64 (omP (M t j)).d) ∧ w'.cell? ⟨w9.heap.size, 4, none⟩ = some (.int .i64 (e : Int))) 7 (by kernel_rfl) ⟨yco0, yco1, yco2, yci0, yci1, yci2, ycc0, ycc1, ycc2, ycc3, ycc4⟩ (fun hS0 => ?_)
            refine wpAnyX_take (i := 0) (oi := _) (v := ?_) rfl (by kernel_rfl) (by kernel_rfl) (by kernel_rfl) (by kernel_rfl) (fun _ _ _ h => h) (Or.inl ⟨by rfl, ?_⟩) hS0 ?_
            rotate_left 1
            · (intro w hSw; (try dsimp only at hSw); go_simp; (try with_reducible rfl))
            try simp only [Act.put, List.setIfInBounds_toArray, List.set_cons_zero, List.set_cons_succ]
            refine wpAnyX_take (i := 1) (oi := _) (v := ?_) rfl (by kernel_rfl) (by kernel_rfl) (by kernel_rfl) (by kernel_rfl) (fun _ _ _ h => h) (Or.inl ⟨by rfl, ?_⟩) hS0 ?_
            rotate_left 1
            · (intro w hSw; (try dsimp only at hSw); go_simp; (try with_reducible rfl))
            try simp only [Act.put, List.setIfInBounds_toArray, List.set_cons_zero, List.set_cons_succ]
            refine wpAnyX_take (i := 2) (oi := _) (v := ?_) rfl (by kernel_rfl) (by kernel_rfl) (by kernel_rfl) (by kernel_rfl) (fun _ _ _ h => h) (Or.inl ⟨by rfl, ?_⟩) hS0 ?_
            rotate_left 1
            · (intro w hSw; (try dsimp only at hSw); go_simp; (try with_reducible rfl))
            try simp only [Act.put, List.setIfInBounds_toArray, List.set_cons_zero, List.set_cons_succ]
            refine wpAnyX_take (i := 4) (oi := _) (v := ?_) rfl (by kernel_rfl) (by kernel_rfl) (by kernel_rfl) (by kernel_rfl) (fun _ _ _ h => h) (Or.inl ⟨by rfl, ?_⟩) hS0 ?_
            rotate_left 1
            · (intro w hSw; (try dsimp only at hSw); go_simp; (try with_reducible rfl))
            try simp only [Act.put, List.setIfInBounds_toArray, List.set_cons_zero, List.set_cons_succ]
            refine wpAnyX_take (i := 5) (oi := _) (v := ?_) rfl (by kernel_rfl) (by kernel_rfl) (by kernel_rfl) (by kernel_rfl) (fun _ _ _ h => h) (Or.inl ⟨by rfl, ?_⟩) hS0 ?_
            rotate_left 1
            · (intro w hSw; (try dsimp only at hSw); go_simp; (try with_reducible rfl))
            try simp only [Act.put, List.setIfInBounds_toArray, List.set_cons_zero, List.set_cons_succ]
            refine wpAnyX_one (i := 3) (o := _) rfl (by kernel_rfl) (fun K hK => ?_)
            go_simp
            refine (rw_i (i := F t j) (s := s) SS1.out SS2.out (by omega) (by omega) (by omega) (by omega)).mono ?_
            rintro ee u8 ⟨rfl, hu80⟩
            have hu8 := undrewK hu80
            have hzu := hu8.size
            refine hK.out _ _ (fun _ => ?_) (fun hS1 => ?_)
            · exact ⟨kc hu80 (hS0.1), kc hu80 (hS0.2.1), kc hu80 (hS0.2.2.1), kc hu80 (hS0.2.2.2.1), kc hu80 (hS0.2.2.2.2.1), kc hu80 (hS0.2.2.2.2.2.1), kc hu80 (hS0.2.2.2.2.2.2.1), kc hu80 (hS0.2.2.2.2.2.2.2.1), kc hu80 (hS0.2.2.2.2.2.2.2.2.1), kc hu80 (hS0.2.2.2.2.2.2.2.2.2.1), kc hu80 (hS0.2.2.2.2.2.2.2.2.2.2)⟩
            clear hK K
            have hS1 := hS1 (by decide)
            try simp only [Act.put, List.setIfInBounds_toArray, List.set_cons_zero, List.set_cons_succ]
            refine wpAnyX_take (i := 6) (oi := _) (v := ?_) rfl (by kernel_rfl) (by kernel_rfl) (by kernel_rfl) (by kernel_rfl) (fun _ _ _ h => h) (Or.inl ⟨by rfl, ?_⟩) hS1 ?_
            rotate_left 1
            · (intro w hSw; (try dsimp only at hSw); go_simp; (try with_reducible rfl))
            try simp only [Act.put, List.setIfInBounds_toArray, List.set_cons_zero, List.set_cons_succ]
            refine wpAnyX_one (i := 7) (o := _) rfl (by kernel_rfl) (fun K hK => ?_)
            have hG8 := hid (YG.out.mono hu8)
            have fr8 := hG8.out.fr
            have hsj : s + j < NN := by omega
            obtain ⟨r0, r1, r2, r3, r4⟩ := hG8.out.cx (k := s + j) (tab_get hsj)
            simp only [Nat.add_mul] at r0 r1 r2 r3 r4
            go_simp
            refine hK.out _ _ (fun h => absurd rfl h) (fun _ => ?_)
            clear hK K
            try simp only [Act.put, List.setIfInBounds_toArray, List.set_cons_zero, List.set_cons_succ]
            refine wpAnyX_done (by kernel_rfl) ?_ _
            go_wp2_with (fail)
            go_roundg m2
            case measure => omega
            case rel =>
              have hBu : Below w.heap.size w u8 := chain hBW hu8 hBW.size
              have R1 := Yg.out.mono hu8
              have R2 := Yz.out.mono hu8
              have R3 := Yo.out.mono hu8
              have R4 := YT.out.mono hu8
              refine ⟨t + 1, by omega, by go_num, R1.far5 (cellD (M t j) e) (by omega), R2.far5 (cellD (M t j) e) (by omega), R3.far5 (cellD (M t j) e) (by omega), ?_, R4.far5 (cellD (M t j) e) (by omega), by (try simp only [World.size_setCell]); omega, ?_⟩
              · show Bk _ _ _ _
                have h1 := hG8.out.set (k := s + j) (cellD (M t j) e) (by rw [tab_len]; exact hsj)
                rw [gP_set hltj (by rw [SS4.out]) hsj, Nat.add_mul] at h1
                exact h1
              · exact set5_below (g := gz) (x := cellD (M t j) e) hBu (by omega)
end Go.Proofs.Ytofclfgaekjonaa
namespace Go.Proofs.Ytofclfgaekjonaa
open Go.RowKit RM
set_option linter.unusedVariables false
set_option linter.unusedSimpArgs false
attribute [local irreducible] World.setCell

set_option maxRecDepth 100000 in
set_option maxHeartbeats 4000000 in
theorem te_1 {w : World} :
    Calls Try.prog 197 #[.int .i64 1] w fun ee w' => ∃ g : Nat, ee = .returned (.slice (some ⟨g, 0, none⟩) 2 2) ∧ Bx w' g 210 #[.func (.func 150) #[] #[], .func (.func 152) #[] #[]] ∧ w.heap.size ≤ g ∧ Below w.heap.size w w' := by
  go_enter Try.func197, Try.ntmps197
  go_wp2_with (fail)
  go_ret
  refine ⟨w.heap.size, rfl, ?_, by omega, ?_⟩
  · (repeat' (first | (with_reducible assumption) | (refine Bx.new (by first | (with_reducible rfl) | (simp; done))) | (with_reducible refine Bx.alloc ?_ _) | (with_reducible refine Bx.drew ?_) | (with_reducible refine Bx.drewN ?_ _) | (with_reducible refine Bx.mono ?_ (by assumption)) | (with_reducible refine Bx.badly ?_ (by assumption) (by omega)) | (with_reducible refine Bx.far ?_ (by (try simp only [World.size_alloc, World.size_drew]); omega)) | (with_reducible refine Bx.set ?_ rfl) | (with_reducible refine Bx.grown ?_ (by assumption) (by assumption))))
  · (repeat' (first | (with_reducible exact Below.refl _ _) | (with_reducible assumption) | (with_reducible refine Below.alloc ?_ ?_ _) | (with_reducible refine Below.drew ?_) | (with_reducible refine below_drewN ?_ _) | (with_reducible refine Below.setCell ?_ ?_ _) | (with_reducible refine chain ?_ (by assumption) ?_) | omega | (simp; done) | (simp; omega)))

set_option maxRecDepth 100000 in
set_option maxHeartbeats 4000000 in
theorem te_2 {w : World} :
    Calls Try.prog 197 #[.int .i64 2] w fun ee w' => ∃ g : Nat, ee = .returned (.slice (some ⟨g, 0, none⟩) 1 1) ∧ Bx w' g 210 #[.func (.func 150) #[] #[]] ∧ w.heap.size ≤ g ∧ Below w.heap.size w w' := by
  go_enter Try.func197, Try.ntmps197
  go_wp2_with (fail)
  go_ret
  refine ⟨w.heap.size + 1, rfl, ?_, by omega, ?_⟩
  · (repeat' (first | (with_reducible assumption) | (refine Bx.new (by first | (with_reducible rfl) | (simp; done))) | (with_reducible refine Bx.alloc ?_ _) | (with_reducible refine Bx.drew ?_) | (with_reducible refine Bx.drewN ?_ _) | (with_reducible refine Bx.mono ?_ (by assumption)) | (with_reducible refine Bx.badly ?_ (by assumption) (by omega)) | (with_reducible refine Bx.far ?_ (by (try simp only [World.size_alloc, World.size_drew]); omega)) | (with_reducible refine Bx.set ?_ rfl) | (with_reducible refine Bx.grown ?_ (by assumption) (by assumption))))
  · (repeat' (first | (with_reducible exact Below.refl _ _) | (with_reducible assumption) | (with_reducible refine Below.alloc ?_ ?_ _) | (with_reducible refine Below.drew ?_) | (with_reducible refine below_drewN ?_ _) | (with_reducible refine Below.setCell ?_ ?_ _) | (with_reducible refine chain ?_ (by assumption) ?_) | omega | (simp; done) | (simp; omega)))

set_option maxRecDepth 100000 in
set_option maxHeartbeats 4000000 in
theorem te_3 {w : World} :
    Calls Try.prog 197 #[.int .i64 3] w fun ee w' => ∃ g : Nat, ee = .returned (.slice (some ⟨g, 0, none⟩) 1 1) ∧ Bx w' g 210 #[.func (.func 151) #[] #[]] ∧ w.heap.size ≤ g ∧ Below w.heap.size w w' := by
  go_enter Try.func197, Try.ntmps197
  go_wp2_with (fail)
  go_ret
  refine ⟨w.heap.size + 1 + 1, rfl, ?_, by omega, ?_⟩
  · (repeat' (first | (with_reducible assumption) | (refine Bx.new (by first | (with_reducible rfl) | (simp; done))) | (with_reducible refine Bx.alloc ?_ _) | (with_reducible refine Bx.drew ?_) | (with_reducible refine Bx.drewN ?_ _) | (with_reducible refine Bx.mono ?_ (by assumption)) | (with_reducible refine Bx.badly ?_ (by assumption) (by omega)) | (with_reducible refine Bx.far ?_ (by (try simp only [World.size_alloc, World.size_drew]); omega)) | (with_reducible refine Bx.set ?_ rfl) | (with_reducible refine Bx.grown ?_ (by assumption) (by assumption))))
  · (repeat' (first | (with_reducible exact Below.refl _ _) | (with_reducible assumption) | (with_reducible refine Below.alloc ?_ ?_ _) | (with_reducible refine Below.drew ?_) | (with_reducible refine below_drewN ?_ _) | (with_reducible refine Below.setCell ?_ ?_ _) | (with_reducible refine chain ?_ (by assumption) ?_) | omega | (simp; done) | (simp; omega)))

end Go.Proofs.Ytofclfgaekjonaa
namespace Go.Proofs.Ytofclfgaekjonaa
open Go.RowKit RM
set_option linter.unusedVariables false
set_option linter.unusedSimpArgs false
attribute [local irreducible] World.setCell

set_option maxRecDepth 100000 in
set_option maxHeartbeats 4000000 in
theorem te_4 {w : World} :
    Calls Try.prog 197 #[.int .i64 4] w fun ee w' => ∃ g : Nat, ee = .returned (.slice (some ⟨g, 0, none⟩) 1 1) ∧ Bx w' g 210 #[.func (.func 152) #[] #[]] ∧ w.heap.size ≤ g ∧ Below w.heap.size w w' := by
  go_enter Try.func197, Try.ntmps197
  go_wp2_with (fail)
  go_ret
  refine ⟨w.heap.size + 1 + 1 + 1, rfl, ?_, by omega, ?_⟩
  · (repeat' (first | (with_reducible assumption) | (refine Bx.new (by first | (with_reducible rfl) | (simp; done))) | (with_reducible refine Bx.alloc ?_ _) | (with_reducible refine Bx.drew ?_) | (with_reducible refine Bx.drewN ?_ _) | (with_reducible refine Bx.mono ?_ (by assumption)) | (with_reducible refine Bx.badly ?_ (by assumption) (by omega)) | (with_reducible refine Bx.far ?_ (by (try simp only [World.size_alloc, World.size_drew]); omega)) | (with_reducible refine Bx.set ?_ rfl) | (with_reducible refine Bx.grown ?_ (by assumption) (by assumption))))
  · (repeat' (first | (with_reducible exact Below.refl _ _) | (with_reducible assumption) | (with_reducible refine Below.alloc ?_ ?_ _) | (with_reducible refine Below.drew ?_) | (with_reducible refine below_drewN ?_ _) | (with_reducible refine Below.setCell ?_ ?_ _) | (with_reducible refine chain ?_ (by assumption) ?_) | omega | (simp; done) | (simp; omega)))

set_option maxRecDepth 100000 in
set_option maxHeartbeats 4000000 in
theorem te_5 {w : World} :
    Calls Try.prog 197 #[.int .i64 5] w fun ee w' => ∃ g : Nat, ee = .returned (.slice (some ⟨g, 0, none⟩) 1 1) ∧ Bx w' g 210 #[.func (.func 206) #[] #[]] ∧ w.heap.size ≤ g ∧ Below w.heap.size w w' := by
  go_enter Try.func197, Try.ntmps197
  go_wp2_with (fail)
  go_ret
  refine ⟨w.heap.size + 1 + 1 + 1 + 1, rfl, ?_, by omega, ?_⟩
  · (repeat' (first | (with_reducible assumption) | (refine Bx.new (by first | (with_reducible rfl) | (simp; done))) | (with_reducible refine Bx.alloc ?_ _) | (with_reducible refine Bx.drew ?_) | (with_reducible refine Bx.drewN ?_ _) | (with_reducible refine Bx.mono ?_ (by assumption)) | (with_reducible refine Bx.badly ?_ (by assumption) (by omega)) | (with_reducible refine Bx.far ?_ (by (try simp only [World.size_alloc, World.size_drew]); omega)) | (with_reducible refine Bx.set ?_ rfl) | (with_reducible refine Bx.grown ?_ (by assumption) (by assumption))))
  · (repeat' (first | (with_reducible exact Below.refl _ _) | (with_reducible assumption) | (with_reducible refine Below.alloc ?_ ?_ _) | (with_reducible refine Below.drew ?_) | (with_reducible refine below_drewN ?_ _) | (with_reducible refine Below.setCell ?_ ?_ _) | (with_reducible refine chain ?_ (by assumption) ?_) | omega | (simp; done) | (simp; omega)))

set_option maxRecDepth 100000 in
set_option maxHeartbeats 4000000 in
theorem te_6 {w : World} :
    Calls Try.prog 197 #[.int .i64 6] w fun ee w' => ∃ g : Nat, ee = .returned (.slice (some ⟨g, 0, none⟩) 1 1) ∧ Bx w' g 210 #[.func (.func 207) #[] #[]] ∧ w.heap.size ≤ g ∧ Below w.heap.size w w' := by
  go_enter Try.func197, Try.ntmps197
  go_wp2_with (fail)
  go_ret
  refine ⟨w.heap.size + 1 + 1 + 1 + 1 + 1, rfl, ?_, by omega, ?_⟩
  · (repeat' (first | (with_reducible assumption) | (refine Bx.new (by first | (with_reducible rfl) | (simp; done))) | (with_reducible refine Bx.alloc ?_ _) | (with_reducible refine Bx.drew ?_) | (with_reducible refine Bx.drewN ?_ _) | (with_reducible refine Bx.mono ?_ (by assumption)) | (with_reducible refine Bx.badly ?_ (by assumption) (by omega)) | (with_reducible refine Bx.far ?_ (by (try simp only [World.size_alloc, World.size_drew]); omega)) | (with_reducible refine Bx.set ?_ rfl) | (with_reducible refine Bx.grown ?_ (by assumption) (by assumption))))
  · (repeat' (first | (with_reducible exact Below.refl _ _) | (with_reducible assumption) | (with_reducible refine Below.alloc ?_ ?_ _) | (with_reducible refine Below.drew ?_) | (with_reducible refine below_drewN ?_ _) | (with_reducible refine Below.setCell ?_ ?_ _) | (with_reducible refine chain ?_ (by assumption) ?_) | omega | (simp; done) | (simp; omega)))

end Go.Proofs.Ytofclfgaekjonaa
