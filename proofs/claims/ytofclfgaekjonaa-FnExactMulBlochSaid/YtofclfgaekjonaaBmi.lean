/- MulBloch: the program. -/
import Derived.Test.YtofclfgaekjonaaBmu
namespace Go.Proofs.Ytofclfgaekjonaa
open Go.RowKit RM
set_option linter.unusedVariables false
set_option linter.unusedSimpArgs false
attribute [local irreducible] World.setCell

set_option maxRecDepth 100000 in
set_option maxHeartbeats 4000000 in
theorem mb_i_1 {g0 h0 n m : Nat} {xs ys : List D5} {w : World} (hA : Rd w (some ⟨g0, 0, none⟩) xs) (hB : Rd w (some ⟨h0, 0, none⟩) ys) (hn : xs.length = n) (hm : ys.length = m) (hb : n ≤ 1048576) (hb2 : m ≤ 1048576) (h1 : okBl n xs = false) :
    Calls Try.prog 33 #[bv (some ⟨g0, 0, none⟩) n n, bv (some ⟨h0, 0, none⟩) m m] w fun ee w' => ee = .returned (bt none 0 0 false) ∧ Below w.heap.size w w' := by
  have HA := hid hA
  have HB := hid hB
  have HN := hid hn
  have HM := hid hm
  have hl : 0 < n → g0 < w.heap.size := fun h => hA.ltA (by omega) _ rfl
  have hl2 : 0 < m → h0 < w.heap.size := fun h => hB.ltA (by omega) _ rfl
  have HL := hid hl
  have HL2 := hid hl2
  have H1 := hid h1
  clear hA hB hn hm hl hl2 h1
  go_enter Try.func33, Try.ntmps33
  go_upto_region 1 with (fail)
  obtain ⟨W, hW⟩ : ∃ W : World, W = ((w.alloc (.cells #[.slice (some ⟨g0, 0, none⟩) n n] 51)).alloc (.cells #[.slice (some ⟨h0, 0, none⟩) m m] 51)).alloc (.cells #[.slice none 0 0] 51) := ⟨_, rfl⟩
  have hBW : Below w.heap.size w W := by rw [hW]; exact (((Below.refl _ _).alloc (Nat.le_refl _) _).alloc (by simp) _).alloc (by simp; omega) _
  have XA : Hid (Bx W w.heap.size 51 #[.slice (some ⟨g0, 0, none⟩) n n]) := by rw [hW]; exact ((Bx.new rfl).alloc _).alloc _
  have XB : Hid (Bx W (w.heap.size + 1) 51 #[.slice (some ⟨h0, 0, none⟩) m m]) := by rw [hW]; exact (Bx.new (by simp)).alloc _
  have XR : Hid (Bx W (w.heap.size + 1 + 1) 51 #[.slice none 0 0]) := by rw [hW]; exact Bx.new (by simp)
  have hzW : w.heap.size + 1 + 1 < W.heap.size := by rw [hW]; simp
  rw [← hW]
  clear hW
  have a0 := XA.out.c 0 rfl
  go_wp2_with (fail)
  refine (iv_i (xs := xs) ?_ HN.out hb).mono ?_
  · exact HA.out.mono hBW
  rw [H1.out]
  rintro ee w1 ⟨rfl, hb1⟩
  clear a0
  have hBw1 : Below w.heap.size w w1 := chain hBW hb1 hBW.size
  have hzw1 := hb1.size
  replace XA := hid (XA.out.mono hb1)
  replace XB := hid (XB.out.mono hb1)
  replace XR := hid (XR.out.mono hb1)
  have r0 := XR.out.c 0 rfl
  have rf := XR.out.f
  have rl := XR.out.lt
  go_upto_region 2 with (fail)
  go_wp2_with (fail)
  refine bodyPost_ret (v := bt none 0 0 false) (by first | (simp [results, Try.results33, go_sem, *]; done) | (simp only [results, Try.results33]; go_simp; done)) rfl ⟨rfl, ?_⟩
  (repeat' (first | (with_reducible exact Below.refl _ _) | (with_reducible assumption) | (with_reducible refine Below.alloc ?_ ?_ _) | (with_reducible refine Below.drew ?_) | (with_reducible refine below_drewN ?_ _) | (with_reducible refine Below.setCell ?_ ?_ _) | (with_reducible refine chain ?_ (by assumption) ?_) | omega | (simp; done) | (simp; omega)))

set_option maxRecDepth 100000 in
set_option maxHeartbeats 4000000 in
theorem mb_i_2 {g0 h0 n m : Nat} {xs ys : List D5} {w : World} (hA : Rd w (some ⟨g0, 0, none⟩) xs) (hB : Rd w (some ⟨h0, 0, none⟩) ys) (hn : xs.length = n) (hm : ys.length = m) (hb : n ≤ 1048576) (hb2 : m ≤ 1048576) (h1 : okBl n xs = true) (h2 : okBl m ys = false) :
    Calls Try.prog 33 #[bv (some ⟨g0, 0, none⟩) n n, bv (some ⟨h0, 0, none⟩) m m] w fun ee w' => ee = .returned (bt none 0 0 false) ∧ Below w.heap.size w w' := by
  have HA := hid hA
  have HB := hid hB
  have HN := hid hn
  have HM := hid hm
  have hl : 0 < n → g0 < w.heap.size := fun h => hA.ltA (by omega) _ rfl
  have hl2 : 0 < m → h0 < w.heap.size := fun h => hB.ltA (by omega) _ rfl
  have HL := hid hl
  have HL2 := hid hl2
  have H1 := hid h1
  have H2 := hid h2
  clear hA hB hn hm hl hl2 h1 h2
  go_enter Try.func33, Try.ntmps33
  go_upto_region 1 with (fail)
  obtain ⟨W, hW⟩ : ∃ W : World, W = ((w.alloc (.cells #[.slice (some ⟨g0, 0, none⟩) n n] 51)).alloc (.cells #[.slice (some ⟨h0, 0, none⟩) m m] 51)).alloc (.cells #[.slice none 0 0] 51) := ⟨_, rfl⟩
  have hBW : Below w.heap.size w W := by rw [hW]; exact (((Below.refl _ _).alloc (Nat.le_refl _) _).alloc (by simp) _).alloc (by simp; omega) _
  have XA : Hid (Bx W w.heap.size 51 #[.slice (some ⟨g0, 0, none⟩) n n]) := by rw [hW]; exact ((Bx.new rfl).alloc _).alloc _
  have XB : Hid (Bx W (w.heap.size + 1) 51 #[.slice (some ⟨h0, 0, none⟩) m m]) := by rw [hW]; exact (Bx.new (by simp)).alloc _
  have XR : Hid (Bx W (w.heap.size + 1 + 1) 51 #[.slice none 0 0]) := by rw [hW]; exact Bx.new (by simp)
  have hzW : w.heap.size + 1 + 1 < W.heap.size := by rw [hW]; simp
  rw [← hW]
  clear hW
  have a0 := XA.out.c 0 rfl
  go_wp2_with (fail)
  refine (iv_i (xs := xs) ?_ HN.out hb).mono ?_
  · exact HA.out.mono hBW
  rw [H1.out]
  rintro ee w1 ⟨rfl, hb1⟩
  clear a0
  have hBw1 : Below w.heap.size w w1 := chain hBW hb1 hBW.size
  have hzw1 := hb1.size
  replace XA := hid (XA.out.mono hb1)
  replace XB := hid (XB.out.mono hb1)
  replace XR := hid (XR.out.mono hb1)
  have a0 := XB.out.c 0 rfl
  go_wp2_with (fail)
  refine (iv_i (xs := ys) ?_ HM.out hb2).mono ?_
  · exact HB.out.mono hBw1
  rw [H2.out]
  rintro ee w2 ⟨rfl, hb2x⟩
  clear a0
  have hBw2 : Below w.heap.size w w2 := chain hBw1 hb2x hBw1.size
  have hzw2 := hb2x.size
  replace XA := hid (XA.out.mono hb2x)
  replace XB := hid (XB.out.mono hb2x)
  replace XR := hid (XR.out.mono hb2x)
  have r0 := XR.out.c 0 rfl
  have rf := XR.out.f
  have rl := XR.out.lt
  go_upto_region 2 with (fail)
  go_wp2_with (fail)
  refine bodyPost_ret (v := bt none 0 0 false) (by first | (simp [results, Try.results33, go_sem, *]; done) | (simp only [results, Try.results33]; go_simp; done)) rfl ⟨rfl, ?_⟩
  (repeat' (first | (with_reducible exact Below.refl _ _) | (with_reducible assumption) | (with_reducible refine Below.alloc ?_ ?_ _) | (with_reducible refine Below.drew ?_) | (with_reducible refine below_drewN ?_ _) | (with_reducible refine Below.setCell ?_ ?_ _) | (with_reducible refine chain ?_ (by assumption) ?_) | omega | (simp; done) | (simp; omega)))

/-- what stays in MulBloch -/
def S11 (w : World) (g0 h0 : Nat) (xs ys : List D5) (W : World) : Prop :=
  Rd W (some ⟨g0, 0, none⟩) xs ∧ Rd W (some ⟨h0, 0, none⟩) ys ∧ Bx W w.heap.size 51 #[.slice (some ⟨g0, 0, none⟩) 9 9] ∧ Bx W (w.heap.size + 1) 51 #[.slice (some ⟨h0, 0, none⟩) 9 9] ∧ Bx W (w.heap.size + 1 + 1) 51 #[.slice none 0 0] ∧ Below w.heap.size w W
theorem S11.mono {w : World} {g0 h0 : Nat} {xs ys : List D5} {W W' : World} (h : S11 w g0 h0 xs ys W) (hb : Below W.heap.size W W') : S11 w g0 h0 xs ys W' :=
  ⟨h.1.mono hb, h.2.1.mono hb, h.2.2.1.mono hb, h.2.2.2.1.mono hb, h.2.2.2.2.1.mono hb, chain h.2.2.2.2.2 hb h.2.2.2.2.2.size⟩
theorem S11.alloc {w : World} {g0 h0 : Nat} {xs ys : List D5} {W : World} (h : S11 w g0 h0 xs ys W) (o : Obj) : S11 w g0 h0 xs ys (W.alloc o) := h.mono ((Below.refl _ _).alloc (Nat.le_refl _) _)
theorem S11.drew {w : World} {g0 h0 : Nat} {xs ys : List D5} {W : World} (h : S11 w g0 h0 xs ys W) : S11 w g0 h0 xs ys W.drew := h.mono (Below.refl _ _).drew
theorem S11.newlt {w : World} {g0 h0 : Nat} {xs ys : List D5} {W : World} (h : S11 w g0 h0 xs ys W) : w.heap.size + 1 + 1 < W.heap.size := h.2.2.2.2.1.lt
theorem S11.set {w : World} {g0 h0 g o : Nat} {u : Value} {xs ys : List D5} {W : World} (h : S11 w g0 h0 xs ys W) (h1 : w.heap.size + 1 + 1 < g) (h2 : g0 < w.heap.size) (h3 : h0 < w.heap.size) : S11 w g0 h0 xs ys (W.setCell ⟨g, o, none⟩ u) :=
  ⟨h.1.far (p := ⟨g, o, none⟩) (fun a ha => by cases ha; show g0 ≠ g; omega) u, h.2.1.far (p := ⟨g, o, none⟩) (fun a ha => by cases ha; show h0 ≠ g; omega) u, h.2.2.1.far (by omega), h.2.2.2.1.far (by omega), h.2.2.2.2.1.far (by omega), h.2.2.2.2.2.setCell (by show w.heap.size ≤ g; omega) _⟩
theorem S11.newbox {w : World} {g0 h0 : Nat} {xs ys : List D5} {W : World} {cs : Array Value} {t : TypeId} (h : S11 w g0 h0 xs ys (W.alloc (.cells cs t))) : Bx (W.alloc (.cells cs t)) W.heap.size t cs := Bx.new rfl
theorem S11.newboxd {w : World} {g0 h0 : Nat} {xs ys : List D5} {W : World} {cs : Array Value} {t : TypeId} (h : S11 w g0 h0 xs ys (W.alloc (.cells cs t)).drew) : Bx (W.alloc (.cells cs t)).drew W.heap.size t cs := Bx.new (W := W) rfl
theorem al_bk2 {w : World} {g0 h0 g : Nat} {xs ys zs : List D5} {t : TypeId} {W : World} {o : Obj} (h : Bk W g t zs) (hs : S11 w g0 h0 xs ys (W.alloc o)) : Bk (W.alloc o) g t zs := h.alloc o
set_option maxRecDepth 100000 in
set_option maxHeartbeats 16000000 in
theorem mb_i_3 {g0 h0 n m : Nat} {xs ys : List D5} {w : World} (hA : Rd w (some ⟨g0, 0, none⟩) xs) (hB : Rd w (some ⟨h0, 0, none⟩) ys) (hn : xs.length = n) (hm : ys.length = m) (hb : n ≤ 1048576) (hb2 : m ≤ 1048576) (h1 : okBl n xs = true) (h2 : okBl m ys = true) (hany : anyB 9 (mmG 3 3 xs ys) = true) :
    Calls Try.prog 33 #[bv (some ⟨g0, 0, none⟩) n n, bv (some ⟨h0, 0, none⟩) m m] w fun ee w' => ee = .returned (bt none 0 0 false) ∧ Below w.heap.size w w' := by
  obtain ⟨n9, hr⟩ := okBl_iff h1
  obtain ⟨m9, hr2⟩ := okBl_iff h2
  subst n9 m9
  have HA := hid hA
  have HB := hid hB
  have HN := hid hn
  have HM := hid hm
  have hl : 0 < 9 → g0 < w.heap.size := fun h => hA.ltA (by omega) _ rfl
  have hl2 : 0 < 9 → h0 < w.heap.size := fun h => hB.ltA (by omega) _ rfl
  have HL := hid hl
  have HL2 := hid hl2
  have H1 := hid h1
  have H2 := hid h2
  have HK := hid (allR_B hr)
  have HK2 := hid (allR_B hr2)
  have HANY := hid hany
  have hg0 := hl (by decide)
  have hh0 := hl2 (by decide)
  clear hA hB hn hm hl hl2 h1 h2 hr hr2 hany
  go_enter Try.func33, Try.ntmps33
  go_upto_region 1 with (fail)
  obtain ⟨W, hW⟩ : ∃ W : World, W = ((w.alloc (.cells #[.slice (some ⟨g0, 0, none⟩) 9 9] 51)).alloc (.cells #[.slice (some ⟨h0, 0, none⟩) 9 9] 51)).alloc (.cells #[.slice none 0 0] 51) := ⟨_, rfl⟩
  have hBW : Below w.heap.size w W := by rw [hW]; exact (((Below.refl _ _).alloc (Nat.le_refl _) _).alloc (by simp) _).alloc (by simp; omega) _
  have XA : Hid (Bx W w.heap.size 51 #[.slice (some ⟨g0, 0, none⟩) 9 9]) := by rw [hW]; exact ((Bx.new rfl).alloc _).alloc _
  have XB : Hid (Bx W (w.heap.size + 1) 51 #[.slice (some ⟨h0, 0, none⟩) 9 9]) := by rw [hW]; exact (Bx.new (by simp)).alloc _
  have XR : Hid (Bx W (w.heap.size + 1 + 1) 51 #[.slice none 0 0]) := by rw [hW]; exact Bx.new (by simp)
  have hzW : w.heap.size + 1 + 1 < W.heap.size := by rw [hW]; simp
  rw [← hW]
  clear hW
  have a0 := XA.out.c 0 rfl
  go_wp2_with (fail)
  refine (iv_i (xs := xs) ?_ HN.out hb).mono ?_
  · exact HA.out.mono hBW
  rw [H1.out]
  rintro ee w1 ⟨rfl, hb1⟩
  clear a0
  have hBw1 : Below w.heap.size w w1 := chain hBW hb1 hBW.size
  have hzw1 := hb1.size
  replace XA := hid (XA.out.mono hb1)
  replace XB := hid (XB.out.mono hb1)
  replace XR := hid (XR.out.mono hb1)
  have a0 := XB.out.c 0 rfl
  go_wp2_with (fail)
  refine (iv_i (xs := ys) ?_ HM.out hb2).mono ?_
  · exact HB.out.mono hBw1
  rw [H2.out]
  rintro ee w2 ⟨rfl, hb2x⟩
  clear a0
  have hBw2 : Below w.heap.size w w2 := chain hBw1 hb2x hBw1.size
  have hzw2 := hb2x.size
  replace XA := hid (XA.out.mono hb2x)
  replace XB := hid (XB.out.mono hb2x)
  replace XR := hid (XR.out.mono hb2x)
  have HS : Hid (S11 w g0 h0 xs ys w2) := ⟨HA.out.mono hBw2, HB.out.mono hBw2, XA.out, XB.out, XR.out, hBw2⟩
  clear XA XB XR hBw1 hBW hzW hzw1 hzw2
  go_upto_region 3 with (fail)
  go_cut [6, 7] (fun s6 s7 wx => CutG (∃ b1 : Nat, s6 = .pointer (some ⟨b1, 0, none⟩) ∧ s7 = .bool false ∧ Hid (Bx wx b1 30 #[.int .i64 0, .int .i64 0, .slice none 0 0]) ∧ w.heap.size + 1 + 1 < b1) (Hid (S11 w g0 h0 xs ys wx)))
  case first =>
    refine wp_region_x (S11 w g0 h0 xs ys) 1000 (by kernel_rfl) (S11.drew HS.out) (fun hS0 => ?_)
    refine wpAnyX_take (i := 0) (oi := _) (v := ?_) rfl (by kernel_rfl) (by kernel_rfl) (by kernel_rfl) (by kernel_rfl) (fun _ _ _ h => h) (Or.inl ⟨by rfl, ?_⟩) hS0 ?_
    rotate_left 1
    · (intro W8 hSw;  go_simp; (try with_reducible rfl))
    change wpAnyX _ _ _ _ _ _ _ _ (Act.put _ (some 18) _) _
    try simp only [Act.put, List.setIfInBounds_toArray, List.set_cons_zero, List.set_cons_succ]
    refine wpAnyX_take (i := 1) (oi := _) (v := ?_) rfl (by kernel_rfl) (by kernel_rfl) (by kernel_rfl) (by kernel_rfl) (fun _ _ _ h => h) (Or.inl ⟨by rfl, ?_⟩) hS0 ?_
    rotate_left 1
    · (intro W8 hSw; have e0 := hSw.2.2.1.c 0 rfl; go_simp; (try with_reducible rfl))
    change wpAnyX _ _ _ _ _ _ _ _ (Act.put _ (some 19) _) _
    try simp only [Act.put, List.setIfInBounds_toArray, List.set_cons_zero, List.set_cons_succ]
    refine wpAnyX_take (i := 3) (oi := _) (v := ?_) rfl (by kernel_rfl) (by kernel_rfl) (by kernel_rfl) (by kernel_rfl) (fun _ _ _ h => h) (Or.inl ⟨by rfl, ?_⟩) hS0 ?_
    rotate_left 1
    · (intro W8 hSw;  go_simp; (try with_reducible rfl))
    change wpAnyX _ _ _ _ _ _ _ _ (Act.put _ (some 21) _) _
    try simp only [Act.put, List.setIfInBounds_toArray, List.set_cons_zero, List.set_cons_succ]
    refine wpAnyX_take (i := 4) (oi := _) (v := ?_) rfl (by kernel_rfl) (by kernel_rfl) (by kernel_rfl) (by kernel_rfl) (fun _ _ _ h => h) (Or.inl ⟨by rfl, ?_⟩) hS0 ?_
    rotate_left 1
    · (intro W8 hSw; have e0 := hSw.2.2.2.1.c 0 rfl; go_simp; (try with_reducible rfl))
    change wpAnyX _ _ _ _ _ _ _ _ (Act.put _ (some 22) _) _
    try simp only [Act.put, List.setIfInBounds_toArray, List.set_cons_zero, List.set_cons_succ]
    refine wpAnyX_two (i := 2) (j := 10) (oi := _) (oj := _) rfl rfl (by kernel_rfl) (fun K hK => ?_) (fun K hK => ?_)
    · go_simp
      refine (cmx_i _).mono ?_
      rintro ee v ⟨rfl, hv⟩
      refine hK.out _ _ (fun _ => hS0.mono hv) (fun hS1 => ?_)
      clear hK K
      have hS1 := hS1 (by decide)
      clear hv
      try simp only [Act.put, List.setIfInBounds_toArray, List.set_cons_zero, List.set_cons_succ]
      refine wpAnyX_two (i := 5) (j := 10) (oi := _) (oj := _) rfl rfl (by kernel_rfl) (fun K hK => ?_) (fun K hK => ?_)
      · go_simp
        refine (cmx_i _).mono ?_
        rintro ee v ⟨rfl, hv⟩
        refine hK.out _ _ (fun _ => hS1.mono hv) (fun hS2 => ?_)
        clear hK K
        have hS2 := hS2 (by decide)
        clear hv
        try simp only [Act.put, List.setIfInBounds_toArray, List.set_cons_zero, List.set_cons_succ]
        refine wpAnyX_two (i := 6) (j := 10) (oi := _) (oj := _) rfl rfl (by kernel_rfl) (fun K hK => ?_) (fun K hK => ?_)
        · go_simp
          have hnl := S11.newlt hS2
          (try have hPl := HP.out.lt)
          refine (pr3 (xs := xs) (ys := ys) (hS2.1) (hS2.2.1) HN.out HM.out HK.out HK2.out (by decide) (by decide) (by decide)).mono ?_
          rintro ee v ⟨hbad, hgood, hv⟩
          obtain rfl := hbad HANY.out
          clear hbad hgood
          refine hK.out _ _ (fun _ => hS2.mono hv) (fun hS3 => ?_)
          clear hK K
          have hS3 := hS3 (by decide)
          clear hv
          try simp only [Act.put, List.setIfInBounds_toArray, List.set_cons_zero, List.set_cons_succ]
          refine wpAnyX_take (i := 7) (oi := _) (v := ?_) rfl (by kernel_rfl) (by kernel_rfl) (by kernel_rfl) (by kernel_rfl) (fun _ _ _ h => h) (Or.inl ⟨by rfl, ?_⟩) hS3 ?_
          rotate_left 1
          · (intro W8 hSw;  go_simp; (try with_reducible rfl))
          change wpAnyX _ _ _ _ _ _ _ _ (Act.put _ (some 17) _) _
          try simp only [Act.put, List.setIfInBounds_toArray, List.set_cons_zero, List.set_cons_succ]
          refine wpAnyX_take (i := 8) (oi := _) (v := ?_) rfl (by kernel_rfl) (by kernel_rfl) (by kernel_rfl) (by kernel_rfl) (fun _ _ _ h => h) (Or.inl ⟨by rfl, ?_⟩) hS3 ?_
          rotate_left 1
          · (intro W8 hSw;  go_simp; (try with_reducible rfl))
          change wpAnyX _ _ _ _ _ _ _ _ (Act.put _ (some 25) _) _
          try simp only [Act.put, List.setIfInBounds_toArray, List.set_cons_zero, List.set_cons_succ]
          refine wpAnyX_take (i := 9) (oi := _) (v := ?_) rfl (by kernel_rfl) (by kernel_rfl) (by kernel_rfl) (by kernel_rfl) (fun _ _ _ h => h) (Or.inl ⟨by rfl, ?_⟩) hS3 ?_
          rotate_left 1
          · (intro W8 hSw;  go_simp; (try with_reducible rfl))
          change wpAnyX _ _ _ _ _ _ _ _ (Act.put _ (some 26) _) _
          try simp only [Act.put, List.setIfInBounds_toArray, List.set_cons_zero, List.set_cons_succ]
          refine wpAnyX_one (i := 10) (o := _) rfl (by kernel_rfl) (fun K hK => ?_)
          go_simp
          refine hK.out _ _ (fun _ => hS3.alloc _) (fun hS4 => ?_)
          clear hK K
          have hS4 := hS4 (by decide)
          (try have hGl := HG.out.lt)
          have hP1 := S11.newlt hS3
          have HP := hid (by first | exact S11.newbox hS4 | exact S11.newboxd hS4)
          try simp only [Act.put, List.setIfInBounds_toArray, List.set_cons_zero, List.set_cons_succ]
          have k0 := HP.out.c 0 rfl
          have k1 := HP.out.c 1 rfl
          have k2 := HP.out.c 2 rfl
          have kf := HP.out.f
          have kl := HP.out.lt
          refine wpAnyX_one (i := 11) (o := _) rfl (by kernel_rfl) (fun K hK => ?_)
          go_simp
          refine hK.out _ _ (fun _ => by first | exact ((hS4.set hP1 hg0 hh0).set hP1 hg0 hh0).set hP1 hg0 hh0 | exact hS3.alloc _) (fun hS5 => ?_)
          clear hK K
          have hS5 := hS5 (by decide)
          try simp only [Act.put, List.setIfInBounds_toArray, List.set_cons_zero, List.set_cons_succ]
          refine wpAnyX_one (i := 12) (o := _) rfl (by kernel_rfl) (fun K hK => ?_)
          go_simp
          refine hK.out _ _ (fun _ => hS5) (fun hS6 => ?_)
          clear hK K
          have hS6 := hS6 (by decide)
          try simp only [Act.put, List.setIfInBounds_toArray, List.set_cons_zero, List.set_cons_succ]
          refine wpAnyX_done (by kernel_rfl) ?_ _
          go_wp2_with (fail)
          go_meet
          first | exact ⟨⟨_, rfl, rfl, hid (Bx.new rfl), hP1⟩, hid hS6⟩ | exact ⟨⟨_, rfl, rfl, hid (((HP.out.set (i := 0) rfl).set (i := 1) rfl).set (i := 2) rfl), hP1⟩, hid hS6⟩
        · go_simp
          refine hK.out _ _ (fun _ => hS2.alloc _) (fun hS3 => ?_)
          clear hK K
          have hS3 := hS3 (by decide)
          (try have hGl := HG.out.lt)
          have hP1 := S11.newlt hS2
          have HP := hid (by first | exact S11.newbox hS3 | exact S11.newboxd hS3)
          try simp only [Act.put, List.setIfInBounds_toArray, List.set_cons_zero, List.set_cons_succ]
          refine wpAnyX_one (i := 6) (o := _) rfl (by kernel_rfl) (fun K hK => ?_)
          go_simp
          have hnl := S11.newlt hS3
          (try have hPl := HP.out.lt)
          refine (pr3 (xs := xs) (ys := ys) (hS3.1) (hS3.2.1) HN.out HM.out HK.out HK2.out (by decide) (by decide) (by decide)).mono ?_
          rintro ee v ⟨hbad, hgood, hv⟩
          obtain rfl := hbad HANY.out
          clear hbad hgood
          refine hK.out _ _ (fun _ => hS3.mono hv) (fun hS4 => ?_)
          clear hK K
          have hS4 := hS4 (by decide)
          replace HP := hid (HP.out.mono hv)
          clear hv
          try simp only [Act.put, List.setIfInBounds_toArray, List.set_cons_zero, List.set_cons_succ]
          refine wpAnyX_take (i := 7) (oi := _) (v := ?_) rfl (by kernel_rfl) (by kernel_rfl) (by kernel_rfl) (by kernel_rfl) (fun _ _ _ h => h) (Or.inl ⟨by rfl, ?_⟩) hS4 ?_
          rotate_left 1
          · (intro W8 hSw;  go_simp; (try with_reducible rfl))
          change wpAnyX _ _ _ _ _ _ _ _ (Act.put _ (some 17) _) _
          try simp only [Act.put, List.setIfInBounds_toArray, List.set_cons_zero, List.set_cons_succ]
          refine wpAnyX_take (i := 8) (oi := _) (v := ?_) rfl (by kernel_rfl) (by kernel_rfl) (by kernel_rfl) (by kernel_rfl) (fun _ _ _ h => h) (Or.inl ⟨by rfl, ?_⟩) hS4 ?_
          rotate_left 1
          · (intro W8 hSw;  go_simp; (try with_reducible rfl))
          change wpAnyX _ _ _ _ _ _ _ _ (Act.put _ (some 25) _) _
          try simp only [Act.put, List.setIfInBounds_toArray, List.set_cons_zero, List.set_cons_succ]
          refine wpAnyX_take (i := 9) (oi := _) (v := ?_) rfl (by kernel_rfl) (by kernel_rfl) (by kernel_rfl) (by kernel_rfl) (fun _ _ _ h => h) (Or.inl ⟨by rfl, ?_⟩) hS4 ?_
          rotate_left 1
          · (intro W8 hSw;  go_simp; (try with_reducible rfl))
          change wpAnyX _ _ _ _ _ _ _ _ (Act.put _ (some 26) _) _
          try simp only [Act.put, List.setIfInBounds_toArray, List.set_cons_zero, List.set_cons_succ]
          have k0 := HP.out.c 0 rfl
          have k1 := HP.out.c 1 rfl
          have k2 := HP.out.c 2 rfl
          have kf := HP.out.f
          have kl := HP.out.lt
          refine wpAnyX_one (i := 11) (o := _) rfl (by kernel_rfl) (fun K hK => ?_)
          go_simp
          refine hK.out _ _ (fun _ => by first | exact ((hS4.set hP1 hg0 hh0).set hP1 hg0 hh0).set hP1 hg0 hh0 | exact hS3.alloc _) (fun hS5 => ?_)
          clear hK K
          have hS5 := hS5 (by decide)
          try simp only [Act.put, List.setIfInBounds_toArray, List.set_cons_zero, List.set_cons_succ]
          refine wpAnyX_one (i := 12) (o := _) rfl (by kernel_rfl) (fun K hK => ?_)
          go_simp
          refine hK.out _ _ (fun _ => hS5) (fun hS6 => ?_)
          clear hK K
          have hS6 := hS6 (by decide)
          try simp only [Act.put, List.setIfInBounds_toArray, List.set_cons_zero, List.set_cons_succ]
          refine wpAnyX_done (by kernel_rfl) ?_ _
          go_wp2_with (fail)
          go_meet
          first | exact ⟨⟨_, rfl, rfl, hid (Bx.new rfl), hP1⟩, hid hS6⟩ | exact ⟨⟨_, rfl, rfl, hid (((HP.out.set (i := 0) rfl).set (i := 1) rfl).set (i := 2) rfl), hP1⟩, hid hS6⟩
      · go_simp
        refine hK.out _ _ (fun _ => hS1.alloc _) (fun hS2 => ?_)
        clear hK K
        have hS2 := hS2 (by decide)
        (try have hGl := HG.out.lt)
        have hP1 := S11.newlt hS1
        have HP := hid (by first | exact S11.newbox hS2 | exact S11.newboxd hS2)
        try simp only [Act.put, List.setIfInBounds_toArray, List.set_cons_zero, List.set_cons_succ]
        refine wpAnyX_one (i := 5) (o := _) rfl (by kernel_rfl) (fun K hK => ?_)
        go_simp
        refine (cmx_i _).mono ?_
        rintro ee v ⟨rfl, hv⟩
        refine hK.out _ _ (fun _ => hS2.mono hv) (fun hS3 => ?_)
        clear hK K
        have hS3 := hS3 (by decide)
        replace HP := hid (HP.out.mono hv)
        clear hv
        try simp only [Act.put, List.setIfInBounds_toArray, List.set_cons_zero, List.set_cons_succ]
        refine wpAnyX_one (i := 6) (o := _) rfl (by kernel_rfl) (fun K hK => ?_)
        go_simp
        have hnl := S11.newlt hS3
        (try have hPl := HP.out.lt)
        refine (pr3 (xs := xs) (ys := ys) (hS3.1) (hS3.2.1) HN.out HM.out HK.out HK2.out (by decide) (by decide) (by decide)).mono ?_
        rintro ee v ⟨hbad, hgood, hv⟩
        obtain rfl := hbad HANY.out
        clear hbad hgood
        refine hK.out _ _ (fun _ => hS3.mono hv) (fun hS4 => ?_)
        clear hK K
        have hS4 := hS4 (by decide)
        replace HP := hid (HP.out.mono hv)
        clear hv
        try simp only [Act.put, List.setIfInBounds_toArray, List.set_cons_zero, List.set_cons_succ]
        refine wpAnyX_take (i := 7) (oi := _) (v := ?_) rfl (by kernel_rfl) (by kernel_rfl) (by kernel_rfl) (by kernel_rfl) (fun _ _ _ h => h) (Or.inl ⟨by rfl, ?_⟩) hS4 ?_
        rotate_left 1
        · (intro W8 hSw;  go_simp; (try with_reducible rfl))
        change wpAnyX _ _ _ _ _ _ _ _ (Act.put _ (some 17) _) _
        try simp only [Act.put, List.setIfInBounds_toArray, List.set_cons_zero, List.set_cons_succ]
        refine wpAnyX_take (i := 8) (oi := _) (v := ?_) rfl (by kernel_rfl) (by kernel_rfl) (by kernel_rfl) (by kernel_rfl) (fun _ _ _ h => h) (Or.inl ⟨by rfl, ?_⟩) hS4 ?_
        rotate_left 1
        · (intro W8 hSw;  go_simp; (try with_reducible rfl))
        change wpAnyX _ _ _ _ _ _ _ _ (Act.put _ (some 25) _) _
        try simp only [Act.put, List.setIfInBounds_toArray, List.set_cons_zero, List.set_cons_succ]
        refine wpAnyX_take (i := 9) (oi := _) (v := ?_) rfl (by kernel_rfl) (by kernel_rfl) (by kernel_rfl) (by kernel_rfl) (fun _ _ _ h => h) (Or.inl ⟨by rfl, ?_⟩) hS4 ?_
        rotate_left 1
        · (intro W8 hSw;  go_simp; (try with_reducible rfl))
        change wpAnyX _ _ _ _ _ _ _ _ (Act.put _ (some 26) _) _
        try simp only [Act.put, List.setIfInBounds_toArray, List.set_cons_zero, List.set_cons_succ]
        have k0 := HP.out.c 0 rfl
        have k1 := HP.out.c 1 rfl
        have k2 := HP.out.c 2 rfl
        have kf := HP.out.f
        have kl := HP.out.lt
        refine wpAnyX_one (i := 11) (o := _) rfl (by kernel_rfl) (fun K hK => ?_)
        go_simp
        refine hK.out _ _ (fun _ => by first | exact ((hS4.set hP1 hg0 hh0).set hP1 hg0 hh0).set hP1 hg0 hh0 | exact hS3.alloc _) (fun hS5 => ?_)
        clear hK K
        have hS5 := hS5 (by decide)
        try simp only [Act.put, List.setIfInBounds_toArray, List.set_cons_zero, List.set_cons_succ]
        refine wpAnyX_one (i := 12) (o := _) rfl (by kernel_rfl) (fun K hK => ?_)
        go_simp
        refine hK.out _ _ (fun _ => hS5) (fun hS6 => ?_)
        clear hK K
        have hS6 := hS6 (by decide)
        try simp only [Act.put, List.setIfInBounds_toArray, List.set_cons_zero, List.set_cons_succ]
        refine wpAnyX_done (by kernel_rfl) ?_ _
        go_wp2_with (fail)
        go_meet
        first | exact ⟨⟨_, rfl, rfl, hid (Bx.new rfl), hP1⟩, hid hS6⟩ | exact ⟨⟨_, rfl, rfl, hid (((HP.out.set (i := 0) rfl).set (i := 1) rfl).set (i := 2) rfl), hP1⟩, hid hS6⟩
    · go_simp
      refine hK.out _ _ (fun _ => hS0.alloc _) (fun hS1 => ?_)
      clear hK K
      have hS1 := hS1 (by decide)
      (try have hGl := HG.out.lt)
      have hP1 := S11.newlt hS0
      have HP := hid (by first | exact S11.newbox hS1 | exact S11.newboxd hS1)
      try simp only [Act.put, List.setIfInBounds_toArray, List.set_cons_zero, List.set_cons_succ]
      refine wpAnyX_one (i := 2) (o := _) rfl (by kernel_rfl) (fun K hK => ?_)
      go_simp
      refine (cmx_i _).mono ?_
      rintro ee v ⟨rfl, hv⟩
      refine hK.out _ _ (fun _ => hS1.mono hv) (fun hS2 => ?_)
      clear hK K
      have hS2 := hS2 (by decide)
      replace HP := hid (HP.out.mono hv)
      clear hv
      try simp only [Act.put, List.setIfInBounds_toArray, List.set_cons_zero, List.set_cons_succ]
      refine wpAnyX_one (i := 5) (o := _) rfl (by kernel_rfl) (fun K hK => ?_)
      go_simp
      refine (cmx_i _).mono ?_
      rintro ee v ⟨rfl, hv⟩
      refine hK.out _ _ (fun _ => hS2.mono hv) (fun hS3 => ?_)
      clear hK K
      have hS3 := hS3 (by decide)
      replace HP := hid (HP.out.mono hv)
      clear hv
      try simp only [Act.put, List.setIfInBounds_toArray, List.set_cons_zero, List.set_cons_succ]
      refine wpAnyX_one (i := 6) (o := _) rfl (by kernel_rfl) (fun K hK => ?_)
      go_simp
      have hnl := S11.newlt hS3
      (try have hPl := HP.out.lt)
      refine (pr3 (xs := xs) (ys := ys) (hS3.1) (hS3.2.1) HN.out HM.out HK.out HK2.out (by decide) (by decide) (by decide)).mono ?_
      rintro ee v ⟨hbad, hgood, hv⟩
      obtain rfl := hbad HANY.out
      clear hbad hgood
      refine hK.out _ _ (fun _ => hS3.mono hv) (fun hS4 => ?_)
      clear hK K
      have hS4 := hS4 (by decide)
      replace HP := hid (HP.out.mono hv)
      clear hv
      try simp only [Act.put, List.setIfInBounds_toArray, List.set_cons_zero, List.set_cons_succ]
      refine wpAnyX_take (i := 7) (oi := _) (v := ?_) rfl (by kernel_rfl) (by kernel_rfl) (by kernel_rfl) (by kernel_rfl) (fun _ _ _ h => h) (Or.inl ⟨by rfl, ?_⟩) hS4 ?_
      rotate_left 1
      · (intro W8 hSw;  go_simp; (try with_reducible rfl))
      change wpAnyX _ _ _ _ _ _ _ _ (Act.put _ (some 17) _) _
      try simp only [Act.put, List.setIfInBounds_toArray, List.set_cons_zero, List.set_cons_succ]
      refine wpAnyX_take (i := 8) (oi := _) (v := ?_) rfl (by kernel_rfl) (by kernel_rfl) (by kernel_rfl) (by kernel_rfl) (fun _ _ _ h => h) (Or.inl ⟨by rfl, ?_⟩) hS4 ?_
      rotate_left 1
      · (intro W8 hSw;  go_simp; (try with_reducible rfl))
      change wpAnyX _ _ _ _ _ _ _ _ (Act.put _ (some 25) _) _
      try simp only [Act.put, List.setIfInBounds_toArray, List.set_cons_zero, List.set_cons_succ]
      refine wpAnyX_take (i := 9) (oi := _) (v := ?_) rfl (by kernel_rfl) (by kernel_rfl) (by kernel_rfl) (by kernel_rfl) (fun _ _ _ h => h) (Or.inl ⟨by rfl, ?_⟩) hS4 ?_
      rotate_left 1
      · (intro W8 hSw;  go_simp; (try with_reducible rfl))
      change wpAnyX _ _ _ _ _ _ _ _ (Act.put _ (some 26) _) _
      try simp only [Act.put, List.setIfInBounds_toArray, List.set_cons_zero, List.set_cons_succ]
      have k0 := HP.out.c 0 rfl
      have k1 := HP.out.c 1 rfl
      have k2 := HP.out.c 2 rfl
      have kf := HP.out.f
      have kl := HP.out.lt
      refine wpAnyX_one (i := 11) (o := _) rfl (by kernel_rfl) (fun K hK => ?_)
      go_simp
      refine hK.out _ _ (fun _ => by first | exact ((hS4.set hP1 hg0 hh0).set hP1 hg0 hh0).set hP1 hg0 hh0 | exact hS3.alloc _) (fun hS5 => ?_)
      clear hK K
      have hS5 := hS5 (by decide)
      try simp only [Act.put, List.setIfInBounds_toArray, List.set_cons_zero, List.set_cons_succ]
      refine wpAnyX_one (i := 12) (o := _) rfl (by kernel_rfl) (fun K hK => ?_)
      go_simp
      refine hK.out _ _ (fun _ => hS5) (fun hS6 => ?_)
      clear hK K
      have hS6 := hS6 (by decide)
      try simp only [Act.put, List.setIfInBounds_toArray, List.set_cons_zero, List.set_cons_succ]
      refine wpAnyX_done (by kernel_rfl) ?_ _
      go_wp2_with (fail)
      go_meet
      first | exact ⟨⟨_, rfl, rfl, hid (Bx.new rfl), hP1⟩, hid hS6⟩ | exact ⟨⟨_, rfl, rfl, hid (((HP.out.set (i := 0) rfl).set (i := 1) rfl).set (i := 2) rfl), hP1⟩, hid hS6⟩
  case rest =>
    obtain ⟨w8, rfl⟩ : ∃ w8, w8 = wc := ⟨_, rfl⟩
    obtain ⟨⟨b1, rfl, rfl, HP, hb1⟩, HS⟩ := hcut
    have p2 := HP.out.c 2 rfl
    have r0 := HS.out.2.2.2.2.1.c 0 rfl
    have rf := HS.out.2.2.2.2.1.f
    have rl := HS.out.2.2.2.2.1.lt
    have hB8 := HS.out.2.2.2.2.2
    go_upto_region 4 with (fail)
    (repeat (first | go_values | go_skip | go_guarded | go_step | go_upon))
    refine bodyPost_ret (v := bt none 0 0 false) (by first | (simp only [results, Try.results33]; go_simp; done) | (simp [results, Try.results33, go_sem, *]; done)) rfl ⟨rfl, hB8.setCell (by first | (dsimp only; omega) | omega) _⟩

set_option maxRecDepth 100000 in
set_option maxHeartbeats 16000000 in
theorem mb_i_4 {g0 h0 n m : Nat} {xs ys : List D5} {w : World} (hA : Rd w (some ⟨g0, 0, none⟩) xs) (hB : Rd w (some ⟨h0, 0, none⟩) ys) (hn : xs.length = n) (hm : ys.length = m) (hb : n ≤ 1048576) (hb2 : m ≤ 1048576) (h1 : okBl n xs = true) (h2 : okBl m ys = true) (hany : anyB 9 (mmG 3 3 xs ys) = false) :
    Calls Try.prog 33 #[bv (some ⟨g0, 0, none⟩) n n, bv (some ⟨h0, 0, none⟩) m m] w fun ee w' => ∃ g, ee = .returned (bt (some ⟨g, 0, none⟩) 9 9 true) ∧ Bk w' g 99 (tab 9 (mmF 3 3 xs ys)) ∧ w.heap.size ≤ g ∧ Below w.heap.size w w' := by
  obtain ⟨n9, hr⟩ := okBl_iff h1
  obtain ⟨m9, hr2⟩ := okBl_iff h2
  subst n9 m9
  have HA := hid hA
  have HB := hid hB
  have HN := hid hn
  have HM := hid hm
  have hl : 0 < 9 → g0 < w.heap.size := fun h => hA.ltA (by omega) _ rfl
  have hl2 : 0 < 9 → h0 < w.heap.size := fun h => hB.ltA (by omega) _ rfl
  have HL := hid hl
  have HL2 := hid hl2
  have H1 := hid h1
  have H2 := hid h2
  have HK := hid (allR_B hr)
  have HK2 := hid (allR_B hr2)
  have HANY := hid hany
  have hg0 := hl (by decide)
  have hh0 := hl2 (by decide)
  clear hA hB hn hm hl hl2 h1 h2 hr hr2 hany
  go_enter Try.func33, Try.ntmps33
  go_upto_region 1 with (fail)
  obtain ⟨W, hW⟩ : ∃ W : World, W = ((w.alloc (.cells #[.slice (some ⟨g0, 0, none⟩) 9 9] 51)).alloc (.cells #[.slice (some ⟨h0, 0, none⟩) 9 9] 51)).alloc (.cells #[.slice none 0 0] 51) := ⟨_, rfl⟩
  have hBW : Below w.heap.size w W := by rw [hW]; exact (((Below.refl _ _).alloc (Nat.le_refl _) _).alloc (by simp) _).alloc (by simp; omega) _
  have XA : Hid (Bx W w.heap.size 51 #[.slice (some ⟨g0, 0, none⟩) 9 9]) := by rw [hW]; exact ((Bx.new rfl).alloc _).alloc _
  have XB : Hid (Bx W (w.heap.size + 1) 51 #[.slice (some ⟨h0, 0, none⟩) 9 9]) := by rw [hW]; exact (Bx.new (by simp)).alloc _
  have XR : Hid (Bx W (w.heap.size + 1 + 1) 51 #[.slice none 0 0]) := by rw [hW]; exact Bx.new (by simp)
  have hzW : w.heap.size + 1 + 1 < W.heap.size := by rw [hW]; simp
  rw [← hW]
  clear hW
  have a0 := XA.out.c 0 rfl
  go_wp2_with (fail)
  refine (iv_i (xs := xs) ?_ HN.out hb).mono ?_
  · exact HA.out.mono hBW
  rw [H1.out]
  rintro ee w1 ⟨rfl, hb1⟩
  clear a0
  have hBw1 : Below w.heap.size w w1 := chain hBW hb1 hBW.size
  have hzw1 := hb1.size
  replace XA := hid (XA.out.mono hb1)
  replace XB := hid (XB.out.mono hb1)
  replace XR := hid (XR.out.mono hb1)
  have a0 := XB.out.c 0 rfl
  go_wp2_with (fail)
  refine (iv_i (xs := ys) ?_ HM.out hb2).mono ?_
  · exact HB.out.mono hBw1
  rw [H2.out]
  rintro ee w2 ⟨rfl, hb2x⟩
  clear a0
  have hBw2 : Below w.heap.size w w2 := chain hBw1 hb2x hBw1.size
  have hzw2 := hb2x.size
  replace XA := hid (XA.out.mono hb2x)
  replace XB := hid (XB.out.mono hb2x)
  replace XR := hid (XR.out.mono hb2x)
  have HS : Hid (S11 w g0 h0 xs ys w2) := ⟨HA.out.mono hBw2, HB.out.mono hBw2, XA.out, XB.out, XR.out, hBw2⟩
  clear XA XB XR hBw1 hBW hzW hzw1 hzw2
  go_upto_region 3 with (fail)
  go_cut [6, 7] (fun s6 s7 wx => CutG (∃ b1 g : Nat, s6 = .pointer (some ⟨b1, 0, none⟩) ∧ s7 = .bool true ∧ Hid (Bx wx b1 30 #[.int .i64 3, .int .i64 3, .slice (some ⟨g, 0, none⟩) 9 9]) ∧ Hid (Bk wx g 99 (tab 9 (mmF 3 3 xs ys))) ∧ w.heap.size + 1 + 1 < b1 ∧ w.heap.size + 1 + 1 < g) (Hid (S11 w g0 h0 xs ys wx)))
  case first =>
    refine wp_region_x (S11 w g0 h0 xs ys) 1000 (by kernel_rfl) (S11.drew HS.out) (fun hS0 => ?_)
    refine wpAnyX_take (i := 0) (oi := _) (v := ?_) rfl (by kernel_rfl) (by kernel_rfl) (by kernel_rfl) (by kernel_rfl) (fun _ _ _ h => h) (Or.inl ⟨by rfl, ?_⟩) hS0 ?_
    rotate_left 1
    · (intro W8 hSw;  go_simp; (try with_reducible rfl))
    change wpAnyX _ _ _ _ _ _ _ _ (Act.put _ (some 18) _) _
    try simp only [Act.put, List.setIfInBounds_toArray, List.set_cons_zero, List.set_cons_succ]
    refine wpAnyX_take (i := 1) (oi := _) (v := ?_) rfl (by kernel_rfl) (by kernel_rfl) (by kernel_rfl) (by kernel_rfl) (fun _ _ _ h => h) (Or.inl ⟨by rfl, ?_⟩) hS0 ?_
    rotate_left 1
    · (intro W8 hSw; have e0 := hSw.2.2.1.c 0 rfl; go_simp; (try with_reducible rfl))
    change wpAnyX _ _ _ _ _ _ _ _ (Act.put _ (some 19) _) _
    try simp only [Act.put, List.setIfInBounds_toArray, List.set_cons_zero, List.set_cons_succ]
    refine wpAnyX_take (i := 3) (oi := _) (v := ?_) rfl (by kernel_rfl) (by kernel_rfl) (by kernel_rfl) (by kernel_rfl) (fun _ _ _ h => h) (Or.inl ⟨by rfl, ?_⟩) hS0 ?_
    rotate_left 1
    · (intro W8 hSw;  go_simp; (try with_reducible rfl))
    change wpAnyX _ _ _ _ _ _ _ _ (Act.put _ (some 21) _) _
    try simp only [Act.put, List.setIfInBounds_toArray, List.set_cons_zero, List.set_cons_succ]
    refine wpAnyX_take (i := 4) (oi := _) (v := ?_) rfl (by kernel_rfl) (by kernel_rfl) (by kernel_rfl) (by kernel_rfl) (fun _ _ _ h => h) (Or.inl ⟨by rfl, ?_⟩) hS0 ?_
    rotate_left 1
    · (intro W8 hSw; have e0 := hSw.2.2.2.1.c 0 rfl; go_simp; (try with_reducible rfl))
    change wpAnyX _ _ _ _ _ _ _ _ (Act.put _ (some 22) _) _
    try simp only [Act.put, List.setIfInBounds_toArray, List.set_cons_zero, List.set_cons_succ]
    refine wpAnyX_two (i := 2) (j := 10) (oi := _) (oj := _) rfl rfl (by kernel_rfl) (fun K hK => ?_) (fun K hK => ?_)
    · go_simp
      refine (cmx_i _).mono ?_
      rintro ee v ⟨rfl, hv⟩
      refine hK.out _ _ (fun _ => hS0.mono hv) (fun hS1 => ?_)
      clear hK K
      have hS1 := hS1 (by decide)
      clear hv
      try simp only [Act.put, List.setIfInBounds_toArray, List.set_cons_zero, List.set_cons_succ]
      refine wpAnyX_two (i := 5) (j := 10) (oi := _) (oj := _) rfl rfl (by kernel_rfl) (fun K hK => ?_) (fun K hK => ?_)
      · go_simp
        refine (cmx_i _).mono ?_
        rintro ee v ⟨rfl, hv⟩
        refine hK.out _ _ (fun _ => hS1.mono hv) (fun hS2 => ?_)
        clear hK K
        have hS2 := hS2 (by decide)
        clear hv
        try simp only [Act.put, List.setIfInBounds_toArray, List.set_cons_zero, List.set_cons_succ]
        refine wpAnyX_two (i := 6) (j := 10) (oi := _) (oj := _) rfl rfl (by kernel_rfl) (fun K hK => ?_) (fun K hK => ?_)
        · go_simp
          have hnl := S11.newlt hS2
          (try have hPl := HP.out.lt)
          refine (pr3 (xs := xs) (ys := ys) (hS2.1) (hS2.2.1) HN.out HM.out HK.out HK2.out (by decide) (by decide) (by decide)).mono ?_
          rintro ee v ⟨hbad, hgood, hv⟩
          obtain ⟨g, rfl, hG, hgs⟩ := hgood HANY.out
          clear hbad hgood
          refine hK.out _ _ (fun _ => hS2.mono hv) (fun hS3 => ?_)
          clear hK K
          have hS3 := hS3 (by decide)
          have HG := hid hG
          clear hG
          clear hv
          try simp only [Act.put, List.setIfInBounds_toArray, List.set_cons_zero, List.set_cons_succ]
          refine wpAnyX_take (i := 7) (oi := _) (v := ?_) rfl (by kernel_rfl) (by kernel_rfl) (by kernel_rfl) (by kernel_rfl) (fun _ _ _ h => h) (Or.inl ⟨by rfl, ?_⟩) hS3 ?_
          rotate_left 1
          · (intro W8 hSw;  go_simp; (try with_reducible rfl))
          change wpAnyX _ _ _ _ _ _ _ _ (Act.put _ (some 17) _) _
          try simp only [Act.put, List.setIfInBounds_toArray, List.set_cons_zero, List.set_cons_succ]
          refine wpAnyX_take (i := 8) (oi := _) (v := ?_) rfl (by kernel_rfl) (by kernel_rfl) (by kernel_rfl) (by kernel_rfl) (fun _ _ _ h => h) (Or.inl ⟨by rfl, ?_⟩) hS3 ?_
          rotate_left 1
          · (intro W8 hSw;  go_simp; (try with_reducible rfl))
          change wpAnyX _ _ _ _ _ _ _ _ (Act.put _ (some 25) _) _
          try simp only [Act.put, List.setIfInBounds_toArray, List.set_cons_zero, List.set_cons_succ]
          refine wpAnyX_take (i := 9) (oi := _) (v := ?_) rfl (by kernel_rfl) (by kernel_rfl) (by kernel_rfl) (by kernel_rfl) (fun _ _ _ h => h) (Or.inl ⟨by rfl, ?_⟩) hS3 ?_
          rotate_left 1
          · (intro W8 hSw;  go_simp; (try with_reducible rfl))
          change wpAnyX _ _ _ _ _ _ _ _ (Act.put _ (some 26) _) _
          try simp only [Act.put, List.setIfInBounds_toArray, List.set_cons_zero, List.set_cons_succ]
          refine wpAnyX_one (i := 10) (o := _) rfl (by kernel_rfl) (fun K hK => ?_)
          go_simp
          refine hK.out _ _ (fun _ => hS3.alloc _) (fun hS4 => ?_)
          clear hK K
          have hS4 := hS4 (by decide)
          (try have hGl := HG.out.lt)
          replace HG := hid (al_bk2 HG.out hS4)
          have hP1 := S11.newlt hS3
          have HP := hid (by first | exact S11.newbox hS4 | exact S11.newboxd hS4)
          try simp only [Act.put, List.setIfInBounds_toArray, List.set_cons_zero, List.set_cons_succ]
          have k0 := HP.out.c 0 rfl
          have k1 := HP.out.c 1 rfl
          have k2 := HP.out.c 2 rfl
          have kf := HP.out.f
          have kl := HP.out.lt
          refine wpAnyX_one (i := 11) (o := _) rfl (by kernel_rfl) (fun K hK => ?_)
          go_simp
          refine hK.out _ _ (fun _ => by first | exact ((hS4.set hP1 hg0 hh0).set hP1 hg0 hh0).set hP1 hg0 hh0 | exact hS3.alloc _) (fun hS5 => ?_)
          clear hK K
          have hS5 := hS5 (by decide)
          try simp only [Act.put, List.setIfInBounds_toArray, List.set_cons_zero, List.set_cons_succ]
          refine wpAnyX_one (i := 12) (o := _) rfl (by kernel_rfl) (fun K hK => ?_)
          go_simp
          refine hK.out _ _ (fun _ => hS5) (fun hS6 => ?_)
          clear hK K
          have hS6 := hS6 (by decide)
          try simp only [Act.put, List.setIfInBounds_toArray, List.set_cons_zero, List.set_cons_succ]
          refine wpAnyX_done (by kernel_rfl) ?_ _
          go_wp2_with (fail)
          go_meet
          first | exact ⟨⟨_, g, rfl, rfl, hid (Bx.new rfl), hid (Bk.refold HG.out hGl), hP1, by omega⟩, hid hS6⟩ | exact ⟨⟨_, g, rfl, rfl, hid (((HP.out.set (i := 0) rfl).set (i := 1) rfl).set (i := 2) rfl), hid (((HG.out.far (by first | (dsimp only; omega) | omega) _).far (by first | (dsimp only; omega) | omega) _).far (by first | (dsimp only; omega) | omega) _), hP1, by omega⟩, hid hS6⟩
        · go_simp
          refine hK.out _ _ (fun _ => hS2.alloc _) (fun hS3 => ?_)
          clear hK K
          have hS3 := hS3 (by decide)
          (try have hGl := HG.out.lt)
          have hP1 := S11.newlt hS2
          have HP := hid (by first | exact S11.newbox hS3 | exact S11.newboxd hS3)
          try simp only [Act.put, List.setIfInBounds_toArray, List.set_cons_zero, List.set_cons_succ]
          refine wpAnyX_one (i := 6) (o := _) rfl (by kernel_rfl) (fun K hK => ?_)
          go_simp
          have hnl := S11.newlt hS3
          (try have hPl := HP.out.lt)
          refine (pr3 (xs := xs) (ys := ys) (hS3.1) (hS3.2.1) HN.out HM.out HK.out HK2.out (by decide) (by decide) (by decide)).mono ?_
          rintro ee v ⟨hbad, hgood, hv⟩
          obtain ⟨g, rfl, hG, hgs⟩ := hgood HANY.out
          clear hbad hgood
          refine hK.out _ _ (fun _ => hS3.mono hv) (fun hS4 => ?_)
          clear hK K
          have hS4 := hS4 (by decide)
          replace HP := hid (HP.out.mono hv)
          have HG := hid hG
          clear hG
          clear hv
          try simp only [Act.put, List.setIfInBounds_toArray, List.set_cons_zero, List.set_cons_succ]
          refine wpAnyX_take (i := 7) (oi := _) (v := ?_) rfl (by kernel_rfl) (by kernel_rfl) (by kernel_rfl) (by kernel_rfl) (fun _ _ _ h => h) (Or.inl ⟨by rfl, ?_⟩) hS4 ?_
          rotate_left 1
          · (intro W8 hSw;  go_simp; (try with_reducible rfl))
          change wpAnyX _ _ _ _ _ _ _ _ (Act.put _ (some 17) _) _
          try simp only [Act.put, List.setIfInBounds_toArray, List.set_cons_zero, List.set_cons_succ]
          refine wpAnyX_take (i := 8) (oi := _) (v := ?_) rfl (by kernel_rfl) (by kernel_rfl) (by kernel_rfl) (by kernel_rfl) (fun _ _ _ h => h) (Or.inl ⟨by rfl, ?_⟩) hS4 ?_
          rotate_left 1
          · (intro W8 hSw;  go_simp; (try with_reducible rfl))
          change wpAnyX _ _ _ _ _ _ _ _ (Act.put _ (some 25) _) _
          try simp only [Act.put, List.setIfInBounds_toArray, List.set_cons_zero, List.set_cons_succ]
          refine wpAnyX_take (i := 9) (oi := _) (v := ?_) rfl (by kernel_rfl) (by kernel_rfl) (by kernel_rfl) (by kernel_rfl) (fun _ _ _ h => h) (Or.inl ⟨by rfl, ?_⟩) hS4 ?_
          rotate_left 1
          · (intro W8 hSw;  go_simp; (try with_reducible rfl))
          change wpAnyX _ _ _ _ _ _ _ _ (Act.put _ (some 26) _) _
          try simp only [Act.put, List.setIfInBounds_toArray, List.set_cons_zero, List.set_cons_succ]
          have k0 := HP.out.c 0 rfl
          have k1 := HP.out.c 1 rfl
          have k2 := HP.out.c 2 rfl
          have kf := HP.out.f
          have kl := HP.out.lt
          refine wpAnyX_one (i := 11) (o := _) rfl (by kernel_rfl) (fun K hK => ?_)
          go_simp
          refine hK.out _ _ (fun _ => by first | exact ((hS4.set hP1 hg0 hh0).set hP1 hg0 hh0).set hP1 hg0 hh0 | exact hS3.alloc _) (fun hS5 => ?_)
          clear hK K
          have hS5 := hS5 (by decide)
          try simp only [Act.put, List.setIfInBounds_toArray, List.set_cons_zero, List.set_cons_succ]
          refine wpAnyX_one (i := 12) (o := _) rfl (by kernel_rfl) (fun K hK => ?_)
          go_simp
          refine hK.out _ _ (fun _ => hS5) (fun hS6 => ?_)
          clear hK K
          have hS6 := hS6 (by decide)
          try simp only [Act.put, List.setIfInBounds_toArray, List.set_cons_zero, List.set_cons_succ]
          refine wpAnyX_done (by kernel_rfl) ?_ _
          go_wp2_with (fail)
          go_meet
          first | exact ⟨⟨_, g, rfl, rfl, hid (Bx.new rfl), hid (Bk.refold HG.out hGl), hP1, by omega⟩, hid hS6⟩ | exact ⟨⟨_, g, rfl, rfl, hid (((HP.out.set (i := 0) rfl).set (i := 1) rfl).set (i := 2) rfl), hid (((HG.out.far (by first | (dsimp only; omega) | omega) _).far (by first | (dsimp only; omega) | omega) _).far (by first | (dsimp only; omega) | omega) _), hP1, by omega⟩, hid hS6⟩
      · go_simp
        refine hK.out _ _ (fun _ => hS1.alloc _) (fun hS2 => ?_)
        clear hK K
        have hS2 := hS2 (by decide)
        (try have hGl := HG.out.lt)
        have hP1 := S11.newlt hS1
        have HP := hid (by first | exact S11.newbox hS2 | exact S11.newboxd hS2)
        try simp only [Act.put, List.setIfInBounds_toArray, List.set_cons_zero, List.set_cons_succ]
        refine wpAnyX_one (i := 5) (o := _) rfl (by kernel_rfl) (fun K hK => ?_)
        go_simp
        refine (cmx_i _).mono ?_
        rintro ee v ⟨rfl, hv⟩
        refine hK.out _ _ (fun _ => hS2.mono hv) (fun hS3 => ?_)
        clear hK K
        have hS3 := hS3 (by decide)
        replace HP := hid (HP.out.mono hv)
        clear hv
        try simp only [Act.put, List.setIfInBounds_toArray, List.set_cons_zero, List.set_cons_succ]
        refine wpAnyX_one (i := 6) (o := _) rfl (by kernel_rfl) (fun K hK => ?_)
        go_simp
        have hnl := S11.newlt hS3
        (try have hPl := HP.out.lt)
        refine (pr3 (xs := xs) (ys := ys) (hS3.1) (hS3.2.1) HN.out HM.out HK.out HK2.out (by decide) (by decide) (by decide)).mono ?_
        rintro ee v ⟨hbad, hgood, hv⟩
        obtain ⟨g, rfl, hG, hgs⟩ := hgood HANY.out
        clear hbad hgood
        refine hK.out _ _ (fun _ => hS3.mono hv) (fun hS4 => ?_)
        clear hK K
        have hS4 := hS4 (by decide)
        replace HP := hid (HP.out.mono hv)
        have HG := hid hG
        clear hG
        clear hv
        try simp only [Act.put, List.setIfInBounds_toArray, List.set_cons_zero, List.set_cons_succ]
        refine wpAnyX_take (i := 7) (oi := _) (v := ?_) rfl (by kernel_rfl) (by kernel_rfl) (by kernel_rfl) (by kernel_rfl) (fun _ _ _ h => h) (Or.inl ⟨by rfl, ?_⟩) hS4 ?_
        rotate_left 1
        · (intro W8 hSw;  go_simp; (try with_reducible rfl))
        change wpAnyX _ _ _ _ _ _ _ _ (Act.put _ (some 17) _) _
        try simp only [Act.put, List.setIfInBounds_toArray, List.set_cons_zero, List.set_cons_succ]
        refine wpAnyX_take (i := 8) (oi := _) (v := ?_) rfl (by kernel_rfl) (by kernel_rfl) (by kernel_rfl) (by kernel_rfl) (fun _ _ _ h => h) (Or.inl ⟨by rfl, ?_⟩) hS4 ?_
        rotate_left 1
        · (intro W8 hSw;  go_simp; (try with_reducible rfl))
        change wpAnyX _ _ _ _ _ _ _ _ (Act.put _ (some 25) _) _
        try simp only [Act.put, List.setIfInBounds_toArray, List.set_cons_zero, List.set_cons_succ]
        refine wpAnyX_take (i := 9) (oi := _) (v := ?_) rfl (by kernel_rfl) (by kernel_rfl) (by kernel_rfl) (by kernel_rfl) (fun _ _ _ h => h) (Or.inl ⟨by rfl, ?_⟩) hS4 ?_
        rotate_left 1
        · (intro W8 hSw;  go_simp; (try with_reducible rfl))
        change wpAnyX _ _ _ _ _ _ _ _ (Act.put _ (some 26) _) _
        try simp only [Act.put, List.setIfInBounds_toArray, List.set_cons_zero, List.set_cons_succ]
        have k0 := HP.out.c 0 rfl
        have k1 := HP.out.c 1 rfl
        have k2 := HP.out.c 2 rfl
        have kf := HP.out.f
        have kl := HP.out.lt
        refine wpAnyX_one (i := 11) (o := _) rfl (by kernel_rfl) (fun K hK => ?_)
        go_simp
        refine hK.out _ _ (fun _ => by first | exact ((hS4.set hP1 hg0 hh0).set hP1 hg0 hh0).set hP1 hg0 hh0 | exact hS3.alloc _) (fun hS5 => ?_)
        clear hK K
        have hS5 := hS5 (by decide)
        try simp only [Act.put, List.setIfInBounds_toArray, List.set_cons_zero, List.set_cons_succ]
        refine wpAnyX_one (i := 12) (o := _) rfl (by kernel_rfl) (fun K hK => ?_)
        go_simp
        refine hK.out _ _ (fun _ => hS5) (fun hS6 => ?_)
        clear hK K
        have hS6 := hS6 (by decide)
        try simp only [Act.put, List.setIfInBounds_toArray, List.set_cons_zero, List.set_cons_succ]
        refine wpAnyX_done (by kernel_rfl) ?_ _
        go_wp2_with (fail)
        go_meet
        first | exact ⟨⟨_, g, rfl, rfl, hid (Bx.new rfl), hid (Bk.refold HG.out hGl), hP1, by omega⟩, hid hS6⟩ | exact ⟨⟨_, g, rfl, rfl, hid (((HP.out.set (i := 0) rfl).set (i := 1) rfl).set (i := 2) rfl), hid (((HG.out.far (by first | (dsimp only; omega) | omega) _).far (by first | (dsimp only; omega) | omega) _).far (by first | (dsimp only; omega) | omega) _), hP1, by omega⟩, hid hS6⟩
    · go_simp
      refine hK.out _ _ (fun _ => hS0.alloc _) (fun hS1 => ?_)
      clear hK K
      have hS1 := hS1 (by decide)
      (try have hGl := HG.out.lt)
      have hP1 := S11.newlt hS0
      have HP := hid (by first | exact S11.newbox hS1 | exact S11.newboxd hS1)
      try simp only [Act.put, List.setIfInBounds_toArray, List.set_cons_zero, List.set_cons_succ]
      refine wpAnyX_one (i := 2) (o := _) rfl (by kernel_rfl) (fun K hK => ?_)
      go_simp
      refine (cmx_i _).mono ?_
      rintro ee v ⟨rfl, hv⟩
      refine hK.out _ _ (fun _ => hS1.mono hv) (fun hS2 => ?_)
      clear hK K
      have hS2 := hS2 (by decide)
      replace HP := hid (HP.out.mono hv)
      clear hv
      try simp only [Act.put, List.setIfInBounds_toArray, List.set_cons_zero, List.set_cons_succ]
      refine wpAnyX_one (i := 5) (o := _) rfl (by kernel_rfl) (fun K hK => ?_)
      go_simp
      refine (cmx_i _).mono ?_
      rintro ee v ⟨rfl, hv⟩
      refine hK.out _ _ (fun _ => hS2.mono hv) (fun hS3 => ?_)
      clear hK K
      have hS3 := hS3 (by decide)
      replace HP := hid (HP.out.mono hv)
      clear hv
      try simp only [Act.put, List.setIfInBounds_toArray, List.set_cons_zero, List.set_cons_succ]
      refine wpAnyX_one (i := 6) (o := _) rfl (by kernel_rfl) (fun K hK => ?_)
      go_simp
      have hnl := S11.newlt hS3
      (try have hPl := HP.out.lt)
      refine (pr3 (xs := xs) (ys := ys) (hS3.1) (hS3.2.1) HN.out HM.out HK.out HK2.out (by decide) (by decide) (by decide)).mono ?_
      rintro ee v ⟨hbad, hgood, hv⟩
      obtain ⟨g, rfl, hG, hgs⟩ := hgood HANY.out
      clear hbad hgood
      refine hK.out _ _ (fun _ => hS3.mono hv) (fun hS4 => ?_)
      clear hK K
      have hS4 := hS4 (by decide)
      replace HP := hid (HP.out.mono hv)
      have HG := hid hG
      clear hG
      clear hv
      try simp only [Act.put, List.setIfInBounds_toArray, List.set_cons_zero, List.set_cons_succ]
      refine wpAnyX_take (i := 7) (oi := _) (v := ?_) rfl (by kernel_rfl) (by kernel_rfl) (by kernel_rfl) (by kernel_rfl) (fun _ _ _ h => h) (Or.inl ⟨by rfl, ?_⟩) hS4 ?_
      rotate_left 1
      · (intro W8 hSw;  go_simp; (try with_reducible rfl))
      change wpAnyX _ _ _ _ _ _ _ _ (Act.put _ (some 17) _) _
      try simp only [Act.put, List.setIfInBounds_toArray, List.set_cons_zero, List.set_cons_succ]
      refine wpAnyX_take (i := 8) (oi := _) (v := ?_) rfl (by kernel_rfl) (by kernel_rfl) (by kernel_rfl) (by kernel_rfl) (fun _ _ _ h => h) (Or.inl ⟨by rfl, ?_⟩) hS4 ?_
      rotate_left 1
      · (intro W8 hSw;  go_simp; (try with_reducible rfl))
      change wpAnyX _ _ _ _ _ _ _ _ (Act.put _ (some 25) _) _
      try simp only [Act.put, List.setIfInBounds_toArray, List.set_cons_zero, List.set_cons_succ]
      refine wpAnyX_take (i := 9) (oi := _) (v := ?_) rfl (by kernel_rfl) (by kernel_rfl) (by kernel_rfl) (by kernel_rfl) (fun _ _ _ h => h) (Or.inl ⟨by rfl, ?_⟩) hS4 ?_
      rotate_left 1
      · (intro W8 hSw;  go_simp; (try with_reducible rfl))
      change wpAnyX _ _ _ _ _ _ _ _ (Act.put _ (some 26) _) _
      try simp only [Act.put, List.setIfInBounds_toArray, List.set_cons_zero, List.set_cons_succ]
      have k0 := HP.out.c 0 rfl
      have k1 := HP.out.c 1 rfl
      have k2 := HP.out.c 2 rfl
      have kf := HP.out.f
      have kl := HP.out.lt
      refine wpAnyX_one (i := 11) (o := _) rfl (by kernel_rfl) (fun K hK => ?_)
      go_simp
      refine hK.out _ _ (fun _ => by first | exact ((hS4.set hP1 hg0 hh0).set hP1 hg0 hh0).set hP1 hg0 hh0 | exact hS3.alloc _) (fun hS5 => ?_)
      clear hK K
      have hS5 := hS5 (by decide)
      try simp only [Act.put, List.setIfInBounds_toArray, List.set_cons_zero, List.set_cons_succ]
      refine wpAnyX_one (i := 12) (o := _) rfl (by kernel_rfl) (fun K hK => ?_)
      go_simp
      refine hK.out _ _ (fun _ => hS5) (fun hS6 => ?_)
      clear hK K
      have hS6 := hS6 (by decide)
      try simp only [Act.put, List.setIfInBounds_toArray, List.set_cons_zero, List.set_cons_succ]
      refine wpAnyX_done (by kernel_rfl) ?_ _
      go_wp2_with (fail)
      go_meet
      first | exact ⟨⟨_, g, rfl, rfl, hid (Bx.new rfl), hid (Bk.refold HG.out hGl), hP1, by omega⟩, hid hS6⟩ | exact ⟨⟨_, g, rfl, rfl, hid (((HP.out.set (i := 0) rfl).set (i := 1) rfl).set (i := 2) rfl), hid (((HG.out.far (by first | (dsimp only; omega) | omega) _).far (by first | (dsimp only; omega) | omega) _).far (by first | (dsimp only; omega) | omega) _), hP1, by omega⟩, hid hS6⟩
  case rest =>
    obtain ⟨w8, rfl⟩ : ∃ w8, w8 = wc := ⟨_, rfl⟩
    obtain ⟨⟨b1, g, rfl, rfl, HP, HG, hb1, hg1⟩, HS⟩ := hcut
    have p2 := HP.out.c 2 rfl
    have r0 := HS.out.2.2.2.2.1.c 0 rfl
    have rf := HS.out.2.2.2.2.1.f
    have rl := HS.out.2.2.2.2.1.lt
    have hB8 := HS.out.2.2.2.2.2
    go_upto_region 4 with (fail)
    (repeat (first | go_values | go_skip | go_guarded | go_step | go_upon))
    refine bodyPost_ret (v := bt (some ⟨g, 0, none⟩) 9 9 true) (by first | (simp only [results, Try.results33]; go_simp; done) | (simp [results, Try.results33, go_sem, *]; done)) rfl ⟨g, rfl, HG.out.far (by first | (dsimp only; omega) | omega) _, by omega, hB8.setCell (by first | (dsimp only; omega) | omega) _⟩


end Go.Proofs.Ytofclfgaekjonaa
