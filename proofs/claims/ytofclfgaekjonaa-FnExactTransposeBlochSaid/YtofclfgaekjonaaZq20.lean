/- Bid -/
import Derived.Test.YtofclfgaekjonaaZq18
import Derived.Test.YtofclfgaekjonaaZq9
namespace Go.Proofs.Ytofclfgaekjonaa
open Go.RowKit RM
set_option linter.unusedVariables false
set_option linter.unusedSimpArgs false
attribute [local irreducible] World.setCell

/-- the program's determinant, column by column -/
def stK (f : Nat → D5) : Nat → D5 × Bool
  | 0 => (z5, false)
  | j + 1 => stpK f j ((j + 1) % 3) ((j + 2) % 3) (stK f j)
theorem stK3 (f : Nat → D5) : stK f 3 = stpK f 2 0 1 (stpK f 1 2 0 (stpK f 0 1 2 (z5, false))) := rfl
theorem below_set {W W' : World} {g : Nat} {u : Value} (h : Below W.heap.size (W.setCell ⟨g, 0, none⟩ u) W') : Below (W.setCell ⟨g, 0, none⟩ u).heap.size (W.setCell ⟨g, 0, none⟩ u) W' := by
  rw [World.size_setCell]; exact h
theorem mrg {P : Program} {md : Region.Mode} {ops : Array Oper} {Q : Exit → Act → World → Prop} {S : World → Prop} {L fuel : Nat} {listed : Array Bool} {a : Act} {w : World} (T : Nat → Array Bool → Act → World → Prop)
    (h1 : ∀ n l a w, T n l a w → wpAnyX P md ops Q S L n l a w) (h2 : (∀ n l a w, T n l a w → wpAnyX P md ops Q S L n l a w) → wpAnyX P md ops Q S L fuel listed a w) : wpAnyX P md ops Q S L fuel listed a w := h2 h1
/-- what stays in region 8 -/
def S8 (w w5 wr : World) (g0 : Nat) (xs : List D5) (t xj : D5) (W : World) : Prop :=
  Rd W (some ⟨g0, 0, none⟩) xs ∧ Bx W (w.heap.size + 1) 99 #[.int .i64 0, .int .i64 0, .int .i64 0, .int .i64 0, .int .i64 0] ∧ Bx W (w.heap.size + 1 + 1 + 1) 99 #[.int .i64 t.a, .int .i64 t.b, .int .i64 t.c, .int .i64 t.d, .int .i64 t.e] ∧ Bx W wr.heap.size 99 #[.int .i64 xj.a, .int .i64 xj.b, .int .i64 xj.c, .int .i64 xj.d, .int .i64 xj.e] ∧ w5.heap.size ≤ W.heap.size ∧ Below w.heap.size w W
theorem S8.mono {w w5 wr : World} {g0 : Nat} {xs : List D5} {t xj : D5} {W W' : World} (h : S8 w w5 wr g0 xs t xj W) (hb : Below W.heap.size W W') : S8 w w5 wr g0 xs t xj W' :=
  ⟨h.1.mono hb, h.2.1.mono hb, h.2.2.1.mono hb, h.2.2.2.1.mono hb, Nat.le_trans h.2.2.2.2.1 hb.size, chain h.2.2.2.2.2 hb h.2.2.2.2.2.size⟩
theorem S8.alloc {w w5 wr : World} {g0 : Nat} {xs : List D5} {t xj : D5} {W : World} (h : S8 w w5 wr g0 xs t xj W) (o : Obj) : S8 w w5 wr g0 xs t xj (W.alloc o) :=
  h.mono ((Below.refl _ _).alloc (Nat.le_refl _) _)
theorem S8.drew {w w5 wr : World} {g0 : Nat} {xs : List D5} {t xj : D5} {W : World} (h : S8 w w5 wr g0 xs t xj W) : S8 w w5 wr g0 xs t xj W.drew :=
  h.mono (Below.refl _ _).drew
theorem S8.badly {w w5 wr : World} {g0 g : Nat} {xs : List D5} {t xj : D5} {W W' : World} {u : Value} (h : S8 w w5 wr g0 xs t xj W) (hb : Below W.heap.size (W.setCell ⟨g, 0, none⟩ u) W') (h1 : w.heap.size ≤ g) (h2 : g0 < w.heap.size) (h3 : w.heap.size + 1 ≠ g) (h4 : w.heap.size + 1 + 1 + 1 ≠ g) (h5 : wr.heap.size ≠ g) : S8 w w5 wr g0 xs t xj W' :=
  ⟨(h.1.far (p := ⟨g, 0, none⟩) (fun a ha => by cases ha; show g0 ≠ g; omega) u).mono (by exact below_set hb), h.2.1.badly hb h3, h.2.2.1.badly hb h4, h.2.2.2.1.badly hb h5, Nat.le_trans h.2.2.2.2.1 (bad_size hb), bad_below h.2.2.2.2.2 hb h1⟩
theorem S8.far5 {w w5 wr : World} {g0 g : Nat} {xs : List D5} {t xj y : D5} {W : World} (h : S8 w w5 wr g0 xs t xj W) (h1 : w.heap.size ≤ g) (h2 : g0 < w.heap.size) (h3 : w.heap.size + 1 ≠ g) (h4 : w.heap.size + 1 + 1 + 1 ≠ g) (h5 : wr.heap.size ≠ g) : S8 w w5 wr g0 xs t xj (set5 W g 0 y) := by
  refine ⟨?_, h.2.1.far5 y h3, h.2.2.1.far5 y h4, h.2.2.2.1.far5 y h5, ?_, ?_⟩
  · unfold set5
    repeat' refine Rd.far ?_ (fun a ha => by cases ha; show g0 ≠ g; omega) _
    exact h.1
  · unfold set5; simp only [World.size_setCell]; exact h.2.2.2.2.1
  · unfold set5
    exact ((((h.2.2.2.2.2.setCell h1 _).setCell h1 _).setCell h1 _).setCell h1 _).setCell h1 _
set_option maxRecDepth 100000 in
set_option maxHeartbeats 16000000 in
theorem dt_i {g0 cp : Nat} {xs : List D5} {w : World} (hA : Rd w (some ⟨g0, 0, none⟩) xs) (hl : xs.length = 9) (hok : allB xs = true) (hcp : 9 ≤ cp) (hcp2 : cp ≤ 1048576) (hgl : g0 < w.heap.size) :
    Calls Try.prog 79 #[mv 3 3 (some ⟨g0, 0, none⟩) 9 cp] w fun ee w' => ee = .returned (.tuple #[(stK (fun i => xs.getD i z5) 3).1.v, .bool (!(stK (fun i => xs.getD i z5) 3).2)]) ∧ Below w.heap.size w w' := by
  have HA := hid hA
  have HN := hid hl
  have HR := hid hok
  clear hA hl hok
  go_enter Try.func79, Try.ntmps79
  go_upto_region 3 with (fail)
  obtain ⟨W, hW⟩ : ∃ W : World, W = (((w.alloc (.cells #[.int .i64 3, .int .i64 3, .slice (some ⟨g0, 0, none⟩) 9 cp] 30)).alloc (.cells #[.int .i64 0, .int .i64 0, .int .i64 0, .int .i64 0, .int .i64 0] 99)).alloc (.cells #[.bool false] 164)).alloc (.cells #[.int .i64 0, .int .i64 0, .int .i64 0, .int .i64 0, .int .i64 0] 99) := ⟨_, rfl⟩
  have hBW : Below w.heap.size w W := by rw [hW]; exact ((((Below.refl _ _).alloc (Nat.le_refl _) _).alloc (by simp) _).alloc (by simp; omega) _).alloc (by simp; omega) _
  have Xm : Hid (Bx W w.heap.size 30 #[.int .i64 3, .int .i64 3, .slice (some ⟨g0, 0, none⟩) 9 cp]) := by rw [hW]; exact (((Bx.new rfl).alloc _).alloc _).alloc _
  have Xr : Hid (Bx W (w.heap.size + 1) 99 #[.int .i64 0, .int .i64 0, .int .i64 0, .int .i64 0, .int .i64 0]) := by rw [hW]; exact ((Bx.new (by simp)).alloc _).alloc _
  have Xc : Hid (Bx W (w.heap.size + 1 + 1) 164 #[.bool false]) := by rw [hW]; exact (Bx.new (by simp)).alloc _
  have Xs : Hid (Bx W (w.heap.size + 1 + 1 + 1) 99 #[.int .i64 0, .int .i64 0, .int .i64 0, .int .i64 0, .int .i64 0]) := by rw [hW]; exact Bx.new (by simp)
  have hzW : w.heap.size + 1 + 1 + 1 < W.heap.size := by rw [hW]; simp
  rw [← hW]
  clear hW
  have m0 := Xm.out.c 0 rfl
  have m1 := Xm.out.c 1 rfl
  have m2 := Xm.out.c 2 rfl
  have ym0 : W.drew.cell? ⟨w.heap.size, 0, none⟩ = some (.int .i64 3) := m0
  have ym1 : W.drew.cell? ⟨w.heap.size, 1, none⟩ = some (.int .i64 3) := m1
  have ym2 : W.drew.cell? ⟨w.heap.size, 2, none⟩ = some (.slice (some ⟨g0, 0, none⟩) 9 cp) := m2
  refine wp_region_x (fun w' => w'.cell? ⟨w.heap.size, 0, none⟩ = some (.int .i64 3) ∧ w'.cell? ⟨w.heap.size, 1, none⟩ = some (.int .i64 3) ∧ w'.cell? ⟨w.heap.size, 2, none⟩ = some (.slice (some ⟨g0, 0, none⟩) 9 cp)) 1000 (by kernel_rfl) ⟨ym0, ym1, ym2⟩ (fun hS0 => ?_)
  refine wpAnyX_take (i := 0) (oi := _) (v := ?_) rfl (by kernel_rfl) (by kernel_rfl) (by kernel_rfl) (by kernel_rfl) (fun _ _ _ h => h) (Or.inl ⟨by rfl, ?_⟩) hS0 ?_
  rotate_left 1
  · (intro w hSw; (try dsimp only at hSw); go_simp; (try with_reducible rfl))
  change wpAnyX _ _ _ _ _ _ _ _ (Act.put _ (some 15) _) _
  try simp only [Act.put, List.setIfInBounds_toArray, List.set_cons_zero, List.set_cons_succ]
  refine wpAnyX_take (i := 2) (oi := _) (v := ?_) rfl (by kernel_rfl) (by kernel_rfl) (by kernel_rfl) (by kernel_rfl) (fun _ _ _ h => h) (Or.inl ⟨by rfl, ?_⟩) hS0 ?_
  rotate_left 1
  · (intro w hSw; (try dsimp only at hSw); go_simp; (try with_reducible rfl))
  change wpAnyX _ _ _ _ _ _ _ _ (Act.put _ (some 17) _) _
  try simp only [Act.put, List.setIfInBounds_toArray, List.set_cons_zero, List.set_cons_succ]
  refine wpAnyX_one (i := 1) (o := _) rfl (by kernel_rfl) (fun K hK => ?_)
  go_simp
  refine (rw_i (r := 3) (C := 3) (i := 1) (s := 3) (by decide) (by decide) (by omega) hcp2 (by decide) (by decide)).mono ?_
  rintro ee wa ⟨rfl, hwa⟩
  have hzwa := hwa.size
  (try simp only [World.size_drew] at hzwa)
  refine hK.out _ _ (fun _ => ?_) (fun hS1 => ?_)
  · exact ⟨kc hwa (hS0.1), kc hwa (hS0.2.1), kc hwa (hS0.2.2)⟩
  clear hK K
  have hS1 := hS1 (by decide)
  try simp only [Act.put, List.setIfInBounds_toArray, List.set_cons_zero, List.set_cons_succ]
  refine wpAnyX_one (i := 3) (o := _) rfl (by kernel_rfl) (fun K hK => ?_)
  go_simp
  refine (rw_i (r := 3) (C := 3) (i := 2) (s := 6) (by decide) (by decide) (by omega) hcp2 (by decide) (by decide)).mono ?_
  rintro ee wb ⟨rfl, hwb⟩
  have hzwb := hwb.size
  (try simp only [World.size_drew] at hzwb)
  refine hK.out _ _ (fun _ => ?_) (fun hS2 => ?_)
  · exact ⟨kc hwb (hS1.1), kc hwb (hS1.2.1), kc hwb (hS1.2.2)⟩
  clear hK K
  have hS2 := hS2 (by decide)
  try simp only [Act.put, List.setIfInBounds_toArray, List.set_cons_zero, List.set_cons_succ]
  refine wpAnyX_take (i := 4) (oi := _) (v := ?_) rfl (by kernel_rfl) (by kernel_rfl) (by kernel_rfl) (by kernel_rfl) (fun _ _ _ h => h) (Or.inl ⟨by rfl, ?_⟩) hS2 ?_
  rotate_left 1
  · (intro w hSw; (try dsimp only at hSw); go_simp; (try with_reducible rfl))
  change wpAnyX _ _ _ _ _ _ _ _ (Act.put _ (some 6) _) _
  try simp only [Act.put, List.setIfInBounds_toArray, List.set_cons_zero, List.set_cons_succ]
  refine wpAnyX_take (i := 5) (oi := _) (v := ?_) rfl (by kernel_rfl) (by kernel_rfl) (by kernel_rfl) (by kernel_rfl) (fun _ _ _ h => h) (Or.inl ⟨by rfl, ?_⟩) hS2 ?_
  rotate_left 1
  · (intro w hSw; (try dsimp only at hSw); go_simp; (try with_reducible rfl))
  change wpAnyX _ _ _ _ _ _ _ _ (Act.put _ (some 7) _) _
  try simp only [Act.put, List.setIfInBounds_toArray, List.set_cons_zero, List.set_cons_succ]
  refine wpAnyX_done (by kernel_rfl) ?_ _
  go_wp2_with (fail)
  refine (rw_i (r := 3) (C := 3) (i := 0) (s := 0) (by decide) (by decide) (by omega) hcp2 (by decide) (by decide)).mono ?_
  rintro ee w4 ⟨rfl, hw4⟩
  have hz4 := hw4.size
  have hB4 : Below W.heap.size W w4 := by (repeat' (first | (with_reducible exact Below.refl _ _) | (with_reducible assumption) | (with_reducible refine Below.alloc ?_ ?_ _) | (with_reducible refine Below.drew ?_) | (with_reducible refine below_drewN ?_ _) | (with_reducible refine Below.setCell ?_ ?_ _) | (with_reducible refine chain ?_ (by assumption) ?_) | omega | (simp; done) | (simp; omega)))
  have Yc := hid (Xc.out.mono hB4)
  have Ys := hid (Xs.out.mono hB4)
  have Yr := hid (Xr.out.mono hB4)
  have hz5 : w.heap.size + 1 + 1 + 1 < w4.heap.size := by have := hB4.size; omega
  have hB5 : Below w.heap.size w w4 := chain hBW hB4 hBW.size
  clear Xm Xc Xs Xr m0 m1 m2 hwa hwb hw4 hS0 hS1 hS2 hz4 hB4 hBW
  go_wp2_with (fail)
  go_loopg [22] 3 (fun q s22 wr => ∃ (j : Nat) (t : D5) (z : Bool), j + q = 3 ∧ s22 = .int .i64 (j : Int) ∧ Hid (t.ok = true) ∧ Hid (stK (fun i => xs.getD i z5) j = (t, z)) ∧ Hid (Bx wr (w.heap.size + 1) 99 #[.int .i64 0, .int .i64 0, .int .i64 0, .int .i64 0, .int .i64 0]) ∧ Hid (Bx wr (w.heap.size + 1 + 1) 164 #[.bool z]) ∧ Hid (Bx wr (w.heap.size + 1 + 1 + 1) 99 #[.int .i64 t.a, .int .i64 t.b, .int .i64 t.c, .int .i64 t.d, .int .i64 t.e]) ∧ w.heap.size + 1 + 1 + 1 < wr.heap.size ∧ Below w.heap.size w wr)
  case atStart => exact ⟨0, z5, false, by omega, rfl, z5_ok, rfl, Yr, Yc, Ys, hz5, hB5⟩
  case round =>
    obtain ⟨j, t, z, hj, rfl, HKt, HST, Xr, Xc, Xs, hsz, hB⟩ := hrel
    cases gk with
    | zero =>
      obtain rfl : j = 3 := by omega
      have HT := hid HST.out
      go_upto_region 12 with (fail)
      refine wp_region_x (fun w' => Bx w' (w.heap.size + 1 + 1 + 1) 99 #[.int .i64 t.a, .int .i64 t.b, .int .i64 t.c, .int .i64 t.d, .int .i64 t.e] ∧ Bx w' (w.heap.size + 1 + 1) 164 #[.bool z]) 1000 (by kernel_rfl) ⟨Xs.out, Xc.out⟩ (fun hS0 => ?_)
      refine wpAnyX_take (i := 0) (oi := _) (v := ?_) rfl (by kernel_rfl) (by kernel_rfl) (by kernel_rfl) (by kernel_rfl) (fun _ _ _ h => h) (Or.inl ⟨by rfl, ?_⟩) hS0 ?_
      rotate_left 1
      · (intro W8 hSw; have e0 := hSw.1.c 0 rfl; have e1 := hSw.1.c 1 rfl; have e2 := hSw.1.c 2 rfl; have e3 := hSw.1.c 3 rfl; have e4 := hSw.1.c 4 rfl; go_simp; (try with_reducible rfl))
      change wpAnyX _ _ _ _ _ _ _ _ (Act.put _ (some 75) _) _
      try simp only [Act.put, List.setIfInBounds_toArray, List.set_cons_zero, List.set_cons_succ]
      refine wpAnyX_take (i := 1) (oi := _) (v := ?_) rfl (by kernel_rfl) (by kernel_rfl) (by kernel_rfl) (by kernel_rfl) (fun _ _ _ h => h) (Or.inl ⟨by rfl, ?_⟩) hS0 ?_
      rotate_left 1
      · (intro W8 hSw;  go_simp; (try with_reducible rfl))
      change wpAnyX _ _ _ _ _ _ _ _ (Act.put _ (some 76) _) _
      try simp only [Act.put, List.setIfInBounds_toArray, List.set_cons_zero, List.set_cons_succ]
      refine wpAnyX_take (i := 2) (oi := _) (v := ?_) rfl (by kernel_rfl) (by kernel_rfl) (by kernel_rfl) (by kernel_rfl) (fun _ _ _ h => h) (Or.inl ⟨by rfl, ?_⟩) hS0 ?_
      rotate_left 1
      · (intro W8 hSw; have e0 := hSw.2.c 0 rfl; go_simp; (try with_reducible rfl))
      change wpAnyX _ _ _ _ _ _ _ _ (Act.put _ (some 77) _) _
      try simp only [Act.put, List.setIfInBounds_toArray, List.set_cons_zero, List.set_cons_succ]
      refine wpAnyX_take (i := 3) (oi := _) (v := ?_) rfl (by kernel_rfl) (by kernel_rfl) (by kernel_rfl) (by kernel_rfl) (fun _ _ _ h => h) (Or.inl ⟨by rfl, ?_⟩) hS0 ?_
      rotate_left 1
      · (intro W8 hSw;  go_simp; (try with_reducible rfl))
      change wpAnyX _ _ _ _ _ _ _ _ (Act.put _ (some 78) _) _
      try simp only [Act.put, List.setIfInBounds_toArray, List.set_cons_zero, List.set_cons_succ]
      have r0 := Xr.out.c 0 rfl
      have r1 := Xr.out.c 1 rfl
      have r2 := Xr.out.c 2 rfl
      have r3 := Xr.out.c 3 rfl
      have r4 := Xr.out.c 4 rfl
      have rf := Xr.out.f
      have rl9 := Xr.out.lt
      refine wpAnyX_one (i := 4) (o := _) rfl (by kernel_rfl) (fun K hK => ?_)
      go_simp
      refine hK.out _ _ (fun _ => ?_) (fun hS5 => ?_)
      · exact ⟨(show Bx (set5 wr (w.heap.size + 1) 0 t) _ _ _ from Xs.out.far5 t (by omega)), (show Bx (set5 wr (w.heap.size + 1) 0 t) _ _ _ from Xc.out.far5 t (by omega))⟩
      clear hK K
      try simp only [Act.put, List.setIfInBounds_toArray, List.set_cons_zero, List.set_cons_succ]
      refine wpAnyX_one (i := 5) (o := _) rfl (by kernel_rfl) (fun K hK => ?_)
      go_simp
      refine hK.out _ _ (fun _ => ?_) (fun hS6 => ?_)
      · exact ⟨(show Bx (set5 wr (w.heap.size + 1) 0 t) _ _ _ from Xs.out.far5 t (by omega)), (show Bx (set5 wr (w.heap.size + 1) 0 t) _ _ _ from Xc.out.far5 t (by omega))⟩
      clear hK K
      try simp only [Act.put, List.setIfInBounds_toArray, List.set_cons_zero, List.set_cons_succ]
      refine wpAnyX_done (by kernel_rfl) ?_ _
      have HXr := hid (Bx.drew (Xr.out.set5 (x := z5) t))
      change Exit.then _ _ _ _ (World.drew (set5 wr (w.heap.size + 1) 0 t))
      have hBf : Below w.heap.size w (World.drew (set5 wr (w.heap.size + 1) 0 t)) := by
        unfold set5
        refine Below.drew ?_
        exact ((((hB.setCell (by show _ ≤ w.heap.size + 1; omega) _).setCell (by show _ ≤ w.heap.size + 1; omega) _).setCell (by show _ ≤ w.heap.size + 1; omega) _).setCell (by show _ ≤ w.heap.size + 1; omega) _).setCell (by show _ ≤ w.heap.size + 1; omega) _
      clear r0 r1 r2 r3 r4 rf rl9 Xr Xs Xc hS0 hS5 hS6
      generalize World.drew (set5 wr (w.heap.size + 1) 0 t) = wh at HXr hBf ⊢
      have q0 := HXr.out.c 0 rfl
      have q1 := HXr.out.c 1 rfl
      have q2 := HXr.out.c 2 rfl
      have q3 := HXr.out.c 3 rfl
      have q4 := HXr.out.c 4 rfl
      (repeat (first | go_values | go_skip | go_guarded | go_step | go_upon))
      refine bodyPost_ret (v := .tuple #[t.v, .bool (!z)]) (by simp only [results, Try.results79]; go_simp; done) rfl ⟨?_, hBf⟩
      rw [HT.out]
    | succ m9 =>
      have hj3 : j < 3 := by omega
      obtain ⟨k, l, hk, hl, ek, el, HKL⟩ : ∃ k l : Nat, k < 3 ∧ l < 3 ∧ ((j : Int) + 1) % 3 = (k : Int) ∧ ((j : Int) + 2) % 3 = (l : Int) ∧ Hid (stK (fun i => xs.getD i z5) (j + 1) = stpK (fun i => xs.getD i z5) j k l (stK (fun i => xs.getD i z5) j)) := by
        rcases (show j = 0 ∨ j = 1 ∨ j = 2 by omega) with h | h | h
        · subst h; exact ⟨1, 2, by decide, by decide, by decide, by decide, rfl⟩
        · subst h; exact ⟨2, 0, by decide, by decide, by decide, by decide, rfl⟩
        · subst h; exact ⟨0, 1, by decide, by decide, by decide, by decide, rfl⟩
      obtain ⟨xj, hxj⟩ : ∃ x, x = xs.getD (j) z5 := ⟨_, rfl⟩
      have HExj := hid hxj
      have HKxj : Hid (xj.ok = true) := hid (by rw [hxj]; exact okD HR.out (by rw [HN.out]; omega))
      have HCxj : Hid (Cx wr g0 (j * 5) xj) := hid (by have h := (HA.out.mono hB).at9 (i := j) (by rw [HN.out]; omega); rw [← hxj] at h; rw [show j * 5 = (j) * 5 by omega]; exact h)
      clear hxj
      obtain ⟨p0, p1, p2, p3, p4⟩ := HCxj.out
      have j4 : (j : Int) < 3 := by omega
      go_upto_region 8 with (fail)
      simp only [ek, el]
      clear p0 p1 p2 p3 p4 HCxj ek el
      obtain ⟨w5, hw5⟩ : ∃ w5 : World, w5 = wr.alloc (.cells #[.int .i64 xj.a, .int .i64 xj.b, .int .i64 xj.c, .int .i64 xj.d, .int .i64 xj.e] 99) := ⟨_, rfl⟩
      have hB5 : Below w.heap.size w w5 := by rw [hw5]; exact hB.alloc hB.size _
      have X95 : Hid (Bx w5 wr.heap.size 99 #[.int .i64 xj.a, .int .i64 xj.b, .int .i64 xj.c, .int .i64 xj.d, .int .i64 xj.e]) := by rw [hw5]; exact Bx.new rfl
      have Xr5 := hid (show Bx w5 _ _ _ by rw [hw5]; exact Xr.out.alloc _)
      have Xc5 := hid (show Bx w5 _ _ _ by rw [hw5]; exact Xc.out.alloc _)
      have Xs5 := hid (show Bx w5 _ _ _ by rw [hw5]; exact Xs.out.alloc _)
      have hz5 : wr.heap.size < w5.heap.size := by rw [hw5]; simp
      rw [← hw5]
      clear hw5 Xr Xc Xs
      obtain ⟨sk, hsk⟩ : ∃ x, x = xs.getD (3 + k) z5 := ⟨_, rfl⟩
      have HEsk := hid hsk
      have HKsk : Hid (sk.ok = true) := hid (by rw [hsk]; exact okD HR.out (by rw [HN.out]; omega))
      have HCsk : Hid (Cx w5 g0 (15 + k * 5) sk) := hid (by have h := (HA.out.mono hB5).at9 (i := 3 + k) (by rw [HN.out]; omega); rw [← hsk] at h; rw [show 15 + k * 5 = (3 + k) * 5 by omega]; exact h)
      clear hsk
      obtain ⟨tl, htl⟩ : ∃ x, x = xs.getD (6 + l) z5 := ⟨_, rfl⟩
      have HEtl := hid htl
      have HKtl : Hid (tl.ok = true) := hid (by rw [htl]; exact okD HR.out (by rw [HN.out]; omega))
      have HCtl : Hid (Cx w5 g0 (30 + l * 5) tl) := hid (by have h := (HA.out.mono hB5).at9 (i := 6 + l) (by rw [HN.out]; omega); rw [← htl] at h; rw [show 30 + l * 5 = (6 + l) * 5 by omega]; exact h)
      clear htl
      obtain ⟨sl, hsl⟩ : ∃ x, x = xs.getD (3 + l) z5 := ⟨_, rfl⟩
      have HEsl := hid hsl
      have HKsl : Hid (sl.ok = true) := hid (by rw [hsl]; exact okD HR.out (by rw [HN.out]; omega))
      have HCsl : Hid (Cx w5 g0 (15 + l * 5) sl) := hid (by have h := (HA.out.mono hB5).at9 (i := 3 + l) (by rw [HN.out]; omega); rw [← hsl] at h; rw [show 15 + l * 5 = (3 + l) * 5 by omega]; exact h)
      clear hsl
      obtain ⟨tk, htk⟩ : ∃ x, x = xs.getD (6 + k) z5 := ⟨_, rfl⟩
      have HEtk := hid htk
      have HKtk : Hid (tk.ok = true) := hid (by rw [htk]; exact okD HR.out (by rw [HN.out]; omega))
      have HCtk : Hid (Cx w5 g0 (30 + k * 5) tk) := hid (by have h := (HA.out.mono hB5).at9 (i := 6 + k) (by rw [HN.out]; omega); rw [← htk] at h; rw [show 30 + k * 5 = (6 + k) * 5 by omega]; exact h)
      clear htk
      obtain ⟨m1, hm1⟩ : ∃ p, p = mulK sk tl := ⟨_, rfl⟩
      have Hm1 := hid hm1
      have HOm1 : Hid (m1.1.ok = true) := hid (by rw [hm1]; exact mulK_ok HKsk.out HKtl.out)
      have HQm1 : Hid (∀ w, Calls Try.prog 134 #[sk.v, tl.v] w fun ee w' => ee = .returned (.tuple #[m1.1.v, .bool (!m1.2)]) ∧ Below w.heap.size w w') := hid (by intro w; rw [hm1]; exact mulK_i HKsk.out HKtl.out w)
      clear hm1
      obtain ⟨m2, hm2⟩ : ∃ p, p = mulK sl tk := ⟨_, rfl⟩
      have Hm2 := hid hm2
      have HOm2 : Hid (m2.1.ok = true) := hid (by rw [hm2]; exact mulK_ok HKsl.out HKtk.out)
      have HQm2 : Hid (∀ w, Calls Try.prog 134 #[sl.v, tk.v] w fun ee w' => ee = .returned (.tuple #[m2.1.v, .bool (!m2.2)]) ∧ Below w.heap.size w w') := hid (by intro w; rw [hm2]; exact mulK_i HKsl.out HKtk.out w)
      clear hm2
      clear HCsk HCtl HCsl HCtk
      go_cut [12, 13] (fun s12 s13 wx => CutG (∃ b1 b2 : Nat, s12 = .pointer (some ⟨b1, 0, none⟩) ∧ s13 = .pointer (some ⟨b2, 0, none⟩) ∧ Hid (Bx wx b1 99 #[.int .i64 m1.1.a, .int .i64 m1.1.b, .int .i64 m1.1.c, .int .i64 m1.1.d, .int .i64 m1.1.e]) ∧ Hid (Bx wx b2 99 #[.int .i64 m2.1.a, .int .i64 m2.1.b, .int .i64 m2.1.c, .int .i64 m2.1.d, .int .i64 m2.1.e]) ∧ w5.heap.size ≤ b1 ∧ w5.heap.size ≤ b2) (Hid (S8 w w5 wr g0 xs t xj wx) ∧ Hid (Bx wx (w.heap.size + 1 + 1) 164 #[.bool ((z || !(!m1.2)) || !(!m2.2))])))
      case first =>
        have hS5 : S8 w w5 wr g0 xs t xj w5.drew := ⟨(HA.out.mono hB5.drew), Xr5.out, Xs5.out, X95.out, Nat.le_refl _, hB5.drew⟩
        have k4 : (k : Int) < 3 := by omega
        have l4 : (l : Int) < 3 := by omega
        have k5 : (0 : Int) ≤ (k : Int) := by omega
        have l5 : (0 : Int) ≤ (l : Int) := by omega
        refine wp_region_x (S8 w w5 wr g0 xs t xj) 1000 (by kernel_rfl) hS5 (fun hS0 => ?_)
        refine wpAnyX_take (i := 0) (oi := _) (v := ?_) rfl (by kernel_rfl) (by kernel_rfl) (by kernel_rfl) (by kernel_rfl) (fun _ _ _ h => h) (Or.inl ⟨by rfl, ?_⟩) hS0 ?_
        rotate_left 1
        · (intro W8 hSw; go_simp; (try with_reducible rfl))
        change wpAnyX _ _ _ _ _ _ _ _ (Act.put _ (some 33) _) _
        try simp only [Act.put, List.setIfInBounds_toArray, List.set_cons_zero, List.set_cons_succ]
        refine wpAnyX_take (i := 1) (oi := _) (v := ?_) rfl (by kernel_rfl) (by kernel_rfl) (by kernel_rfl) (by kernel_rfl) (fun _ _ _ h => h) (Or.inl ⟨by rfl, ?_⟩) hS0 ?_
        rotate_left 1
        · (intro W8 hSw; go_simp; (try with_reducible rfl))
        change wpAnyX _ _ _ _ _ _ _ _ (Act.put _ (some 34) _) _
        try simp only [Act.put, List.setIfInBounds_toArray, List.set_cons_zero, List.set_cons_succ]
        refine wpAnyX_take (i := 2) (oi := _) (v := ?_) rfl (by kernel_rfl) (by kernel_rfl) (by kernel_rfl) (by kernel_rfl) (fun _ _ _ h => h) (Or.inl ⟨by rfl, ?_⟩) hS0 ?_
        rotate_left 1
        · (intro W8 hSw; go_simp; (try with_reducible rfl))
        change wpAnyX _ _ _ _ _ _ _ _ (Act.put _ (some 35) _) _
        try simp only [Act.put, List.setIfInBounds_toArray, List.set_cons_zero, List.set_cons_succ]
        refine wpAnyX_take (i := 3) (oi := _) (v := ?_) rfl (by kernel_rfl) (by kernel_rfl) (by kernel_rfl) (by kernel_rfl) (fun _ _ _ h => h) (Or.inl ⟨by rfl, ?_⟩) hS0 ?_
        rotate_left 1
        · (intro W8 hSw; obtain ⟨c0, c1, c2, c3, c4⟩ : Cx W8 g0 (15 + k * 5) sk := (by have h := hSw.1.at9 (i := 3 + k) (by rw [HN.out]; omega); rw [← HEsk.out] at h; rw [show 15 + k * 5 = (3 + k) * 5 by omega]; exact h); go_simp; (try with_reducible rfl))
        change wpAnyX _ _ _ _ _ _ _ _ (Act.put _ (some 36) _) _
        try simp only [Act.put, List.setIfInBounds_toArray, List.set_cons_zero, List.set_cons_succ]
        refine wpAnyX_take (i := 4) (oi := _) (v := ?_) rfl (by kernel_rfl) (by kernel_rfl) (by kernel_rfl) (by kernel_rfl) (fun _ _ _ h => h) (Or.inl ⟨by rfl, ?_⟩) hS0 ?_
        rotate_left 1
        · (intro W8 hSw; go_simp; (try with_reducible rfl))
        change wpAnyX _ _ _ _ _ _ _ _ (Act.put _ (some 37) _) _
        try simp only [Act.put, List.setIfInBounds_toArray, List.set_cons_zero, List.set_cons_succ]
        refine wpAnyX_take (i := 5) (oi := _) (v := ?_) rfl (by kernel_rfl) (by kernel_rfl) (by kernel_rfl) (by kernel_rfl) (fun _ _ _ h => h) (Or.inl ⟨by rfl, ?_⟩) hS0 ?_
        rotate_left 1
        · (intro W8 hSw; go_simp; (try with_reducible rfl))
        change wpAnyX _ _ _ _ _ _ _ _ (Act.put _ (some 38) _) _
        try simp only [Act.put, List.setIfInBounds_toArray, List.set_cons_zero, List.set_cons_succ]
        refine wpAnyX_take (i := 6) (oi := _) (v := ?_) rfl (by kernel_rfl) (by kernel_rfl) (by kernel_rfl) (by kernel_rfl) (fun _ _ _ h => h) (Or.inl ⟨by rfl, ?_⟩) hS0 ?_
        rotate_left 1
        · (intro W8 hSw; go_simp; (try with_reducible rfl))
        change wpAnyX _ _ _ _ _ _ _ _ (Act.put _ (some 39) _) _
        try simp only [Act.put, List.setIfInBounds_toArray, List.set_cons_zero, List.set_cons_succ]
        refine wpAnyX_take (i := 7) (oi := _) (v := ?_) rfl (by kernel_rfl) (by kernel_rfl) (by kernel_rfl) (by kernel_rfl) (fun _ _ _ h => h) (Or.inl ⟨by rfl, ?_⟩) hS0 ?_
        rotate_left 1
        · (intro W8 hSw; obtain ⟨c0, c1, c2, c3, c4⟩ : Cx W8 g0 (30 + l * 5) tl := (by have h := hSw.1.at9 (i := 6 + l) (by rw [HN.out]; omega); rw [← HEtl.out] at h; rw [show 30 + l * 5 = (6 + l) * 5 by omega]; exact h); go_simp; (try with_reducible rfl))
        change wpAnyX _ _ _ _ _ _ _ _ (Act.put _ (some 40) _) _
        try simp only [Act.put, List.setIfInBounds_toArray, List.set_cons_zero, List.set_cons_succ]
        refine wpAnyX_take (i := 12) (oi := _) (v := ?_) rfl (by kernel_rfl) (by kernel_rfl) (by kernel_rfl) (by kernel_rfl) (fun _ _ _ h => h) (Or.inl ⟨by rfl, ?_⟩) hS0 ?_
        rotate_left 1
        · (intro W8 hSw; go_simp; (try with_reducible rfl))
        change wpAnyX _ _ _ _ _ _ _ _ (Act.put _ (some 45) _) _
        try simp only [Act.put, List.setIfInBounds_toArray, List.set_cons_zero, List.set_cons_succ]
        refine wpAnyX_take (i := 13) (oi := _) (v := ?_) rfl (by kernel_rfl) (by kernel_rfl) (by kernel_rfl) (by kernel_rfl) (fun _ _ _ h => h) (Or.inl ⟨by rfl, ?_⟩) hS0 ?_
        rotate_left 1
        · (intro W8 hSw; go_simp; (try with_reducible rfl))
        change wpAnyX _ _ _ _ _ _ _ _ (Act.put _ (some 46) _) _
        try simp only [Act.put, List.setIfInBounds_toArray, List.set_cons_zero, List.set_cons_succ]
        refine wpAnyX_take (i := 14) (oi := _) (v := ?_) rfl (by kernel_rfl) (by kernel_rfl) (by kernel_rfl) (by kernel_rfl) (fun _ _ _ h => h) (Or.inl ⟨by rfl, ?_⟩) hS0 ?_
        rotate_left 1
        · (intro W8 hSw; go_simp; (try with_reducible rfl))
        change wpAnyX _ _ _ _ _ _ _ _ (Act.put _ (some 47) _) _
        try simp only [Act.put, List.setIfInBounds_toArray, List.set_cons_zero, List.set_cons_succ]
        refine wpAnyX_take (i := 15) (oi := _) (v := ?_) rfl (by kernel_rfl) (by kernel_rfl) (by kernel_rfl) (by kernel_rfl) (fun _ _ _ h => h) (Or.inl ⟨by rfl, ?_⟩) hS0 ?_
        rotate_left 1
        · (intro W8 hSw; obtain ⟨c0, c1, c2, c3, c4⟩ : Cx W8 g0 (15 + l * 5) sl := (by have h := hSw.1.at9 (i := 3 + l) (by rw [HN.out]; omega); rw [← HEsl.out] at h; rw [show 15 + l * 5 = (3 + l) * 5 by omega]; exact h); go_simp; (try with_reducible rfl))
        change wpAnyX _ _ _ _ _ _ _ _ (Act.put _ (some 48) _) _
        try simp only [Act.put, List.setIfInBounds_toArray, List.set_cons_zero, List.set_cons_succ]
        refine wpAnyX_take (i := 16) (oi := _) (v := ?_) rfl (by kernel_rfl) (by kernel_rfl) (by kernel_rfl) (by kernel_rfl) (fun _ _ _ h => h) (Or.inl ⟨by rfl, ?_⟩) hS0 ?_
        rotate_left 1
        · (intro W8 hSw; go_simp; (try with_reducible rfl))
        change wpAnyX _ _ _ _ _ _ _ _ (Act.put _ (some 49) _) _
        try simp only [Act.put, List.setIfInBounds_toArray, List.set_cons_zero, List.set_cons_succ]
        refine wpAnyX_take (i := 17) (oi := _) (v := ?_) rfl (by kernel_rfl) (by kernel_rfl) (by kernel_rfl) (by kernel_rfl) (fun _ _ _ h => h) (Or.inl ⟨by rfl, ?_⟩) hS0 ?_
        rotate_left 1
        · (intro W8 hSw; go_simp; (try with_reducible rfl))
        change wpAnyX _ _ _ _ _ _ _ _ (Act.put _ (some 50) _) _
        try simp only [Act.put, List.setIfInBounds_toArray, List.set_cons_zero, List.set_cons_succ]
        refine wpAnyX_take (i := 18) (oi := _) (v := ?_) rfl (by kernel_rfl) (by kernel_rfl) (by kernel_rfl) (by kernel_rfl) (fun _ _ _ h => h) (Or.inl ⟨by rfl, ?_⟩) hS0 ?_
        rotate_left 1
        · (intro W8 hSw; go_simp; (try with_reducible rfl))
        change wpAnyX _ _ _ _ _ _ _ _ (Act.put _ (some 51) _) _
        try simp only [Act.put, List.setIfInBounds_toArray, List.set_cons_zero, List.set_cons_succ]
        refine wpAnyX_take (i := 19) (oi := _) (v := ?_) rfl (by kernel_rfl) (by kernel_rfl) (by kernel_rfl) (by kernel_rfl) (fun _ _ _ h => h) (Or.inl ⟨by rfl, ?_⟩) hS0 ?_
        rotate_left 1
        · (intro W8 hSw; obtain ⟨c0, c1, c2, c3, c4⟩ : Cx W8 g0 (30 + k * 5) tk := (by have h := hSw.1.at9 (i := 6 + k) (by rw [HN.out]; omega); rw [← HEtk.out] at h; rw [show 30 + k * 5 = (6 + k) * 5 by omega]; exact h); go_simp; (try with_reducible rfl))
        change wpAnyX _ _ _ _ _ _ _ _ (Act.put _ (some 52) _) _
        try simp only [Act.put, List.setIfInBounds_toArray, List.set_cons_zero, List.set_cons_succ]
        refine mrg (fun n li ac wv => n = 2 ∧ li = #[true, true, true, true, true, true, true, true, true, true, true, true, true, true, true, true, true, true, true, true, true, true, true, true, true, true, false, false] ∧ ∃ b1 b2 : Nat, ac = { tmps := #[mv 3 3 (some ⟨g0, 0, none⟩) 9 cp, .pointer (some ⟨w.heap.size, 0, none⟩), .pointer (some ⟨w.heap.size + 1, 0, none⟩), .bool false, .pointer (some ⟨w.heap.size + 1 + 1, 0, none⟩), .pointer (some ⟨w.heap.size + 1 + 1 + 1, 0, none⟩), .slice (some ⟨g0, 15, none⟩) 3 3, .slice (some ⟨g0, 30, none⟩) 3 3, .int .i64 (j : Int), .pointer (some ⟨wr.heap.size, 0, none⟩), .int .i64 (k : Int), .int .i64 (l : Int), .pointer (some ⟨b1, 0, none⟩), .pointer (some ⟨b2, 0, none⟩), u14, .agg #[.int .i64 3, .int .i64 3, .slice (some ⟨g0, 0, none⟩) 9 cp], .slice (some ⟨g0, 15, none⟩) 3 3, .agg #[.int .i64 3, .int .i64 3, .slice (some ⟨g0, 0, none⟩) 9 cp], .slice (some ⟨g0, 30, none⟩) 3 3, .agg #[.int .i64 3, .int .i64 3, .slice (some ⟨g0, 0, none⟩) 9 cp], .slice (some ⟨g0, 0, none⟩) 3 3, .int .i64 3, .int .i64 (j : Int), .bool true, .int .i64 (j : Int), .pointer (some ⟨g0, j * 5, none⟩), .agg #[.int .i64 xj.a, .int .i64 xj.b, .int .i64 xj.c, .int .i64 xj.d, .int .i64 xj.e], .int .i64 (j : Int), .int .i64 ((j : Int) + 1), .int .i64 (k : Int), .int .i64 (j : Int), .int .i64 ((j : Int) + 2), .int .i64 (l : Int), .slice (some ⟨g0, 15, none⟩) 3 3, .int .i64 (k : Int), .pointer (some ⟨g0, 15 + k * 5, none⟩), .agg #[.int .i64 sk.a, .int .i64 sk.b, .int .i64 sk.c, .int .i64 sk.d, .int .i64 sk.e], .slice (some ⟨g0, 30, none⟩) 3 3, .int .i64 (l : Int), .pointer (some ⟨g0, 30 + l * 5, none⟩), .agg #[.int .i64 tl.a, .int .i64 tl.b, .int .i64 tl.c, .int .i64 tl.d, .int .i64 tl.e], .tuple #[m1.1.v, .bool (!m1.2)], .agg #[.int .i64 m1.1.a, .int .i64 m1.1.b, .int .i64 m1.1.c, .int .i64 m1.1.d, .int .i64 m1.1.e], .bool (!m1.2), .agg #[.int .i64 m1.1.a, .int .i64 m1.1.b, .int .i64 m1.1.c, .int .i64 m1.1.d, .int .i64 m1.1.e], .slice (some ⟨g0, 15, none⟩) 3 3, .int .i64 (l : Int), .pointer (some ⟨g0, 15 + l * 5, none⟩), .agg #[.int .i64 sl.a, .int .i64 sl.b, .int .i64 sl.c, .int .i64 sl.d, .int .i64 sl.e], .slice (some ⟨g0, 30, none⟩) 3 3, .int .i64 (k : Int), .pointer (some ⟨g0, 30 + k * 5, none⟩), .agg #[.int .i64 tk.a, .int .i64 tk.b, .int .i64 tk.c, .int .i64 tk.d, .int .i64 tk.e], .tuple #[m2.1.v, .bool (!m2.2)], .agg #[.int .i64 m2.1.a, .int .i64 m2.1.b, .int .i64 m2.1.c, .int .i64 m2.1.d, .int .i64 m2.1.e], .bool (!m2.2), .agg #[.int .i64 m2.1.a, .int .i64 m2.1.b, .int .i64 m2.1.c, .int .i64 m2.1.d, .int .i64 m2.1.e], u57, u58, u59, u60, u61, u62, u63, u64, u65, u66, u67, u68, u69, u70, u71, u72, u73, u74, undef, undef, undef, undef], defers := [] } ∧ Hid (S8 w w5 wr g0 xs t xj wv) ∧ Hid (Bx wv (w.heap.size + 1 + 1) 164 #[.bool ((z || !(!m1.2)) || !(!m2.2))]) ∧ Hid (Bx wv b1 99 #[.int .i64 0, .int .i64 0, .int .i64 0, .int .i64 0, .int .i64 0]) ∧ w5.heap.size ≤ b1 ∧ Hid (Bx wv b2 99 #[.int .i64 0, .int .i64 0, .int .i64 0, .int .i64 0, .int .i64 0]) ∧ w5.heap.size ≤ b2 ∧ b1 ≠ b2) ?_ (fun H4tt => ?_)
        · rintro n li ac wv ⟨rfl, rfl, b1, b2, rfl, HS, HC, B1, h1, B2, h2, h12⟩
          have hBz := hB.size
          have hlc := HC.out.lt
          have hls := HS.out.2.2.2.2.1
          have hlx := HS.out.2.2.2.1.lt
          have hl1 := B1.out.lt
          have hl2 := B2.out.lt
          have k0 := B1.out.c 0 rfl
          have k1 := B1.out.c 1 rfl
          have k2 := B1.out.c 2 rfl
          have k3 := B1.out.c 3 rfl
          have k4 := B1.out.c 4 rfl
          have fb := B1.out.f
          have lb := B1.out.lt
          refine wpAnyX_one (i := 26) (o := _) rfl (by kernel_rfl) (fun K hK => ?_)
          go_simp
          refine hK.out _ _ (fun _ => (show S8 w w5 wr g0 xs t xj (set5 wv b1 0 m1.1) from HS.out.far5 (by omega) hgl (by omega) (by omega) (by omega))) (fun hS9 => ?_)
          clear hK K
          have hS9 := hS9 (by decide)
          try simp only [Act.put, List.setIfInBounds_toArray, List.set_cons_zero, List.set_cons_succ]
          have HC9 : Hid (Bx (set5 wv b1 0 m1.1) (w.heap.size + 1 + 1) 164 #[.bool ((z || !(!m1.2)) || !(!m2.2))]) := hid (HC.out.far5 _ (by omega))
          have B19 : Hid (Bx (set5 wv b1 0 m1.1) b1 99 #[.int .i64 m1.1.a, .int .i64 m1.1.b, .int .i64 m1.1.c, .int .i64 m1.1.d, .int .i64 m1.1.e]) := hid (B1.out.set5 (x := z5) m1.1)
          have B29 : Hid (Bx (set5 wv b1 0 m1.1) b2 99 #[.int .i64 0, .int .i64 0, .int .i64 0, .int .i64 0, .int .i64 0]) := hid (B2.out.far5 m1.1 (fun e => h12 e.symm))
          change wpAnyX _ _ _ _ _ _ _ _ _ (set5 wv b1 0 m1.1)
          have HS9 : Hid (S8 w w5 wr g0 xs t xj (set5 wv b1 0 m1.1)) := hid hS9
          clear hS9 k0 k1 k2 k3 k4 fb lb HS HC B1 B2
          generalize set5 wv b1 0 m1.1 = W1 at HC9 B19 B29 HS9 ⊢
          have k0 := B29.out.c 0 rfl
          have k1 := B29.out.c 1 rfl
          have k2 := B29.out.c 2 rfl
          have k3 := B29.out.c 3 rfl
          have k4 := B29.out.c 4 rfl
          have fb := B29.out.f
          have lb := B29.out.lt
          refine wpAnyX_one (i := 27) (o := _) rfl (by kernel_rfl) (fun K hK => ?_)
          go_simp
          refine hK.out _ _ (fun _ => (show S8 w w5 wr g0 xs t xj (set5 W1 b2 0 m2.1) from HS9.out.far5 (by omega) hgl (by omega) (by omega) (by omega))) (fun hS9 => ?_)
          clear hK K
          have hS9 := hS9 (by decide)
          try simp only [Act.put, List.setIfInBounds_toArray, List.set_cons_zero, List.set_cons_succ]
          refine wpAnyX_done (by kernel_rfl) ?_ _
          go_wp2_with (fail)
          go_meet
          exact ⟨⟨b1, b2, rfl, rfl, hid (show Bx (set5 W1 b2 0 m2.1) b1 _ _ from B19.out.far5 m2.1 h12), hid (show Bx (set5 W1 b2 0 m2.1) b2 _ _ from B29.out.set5 (x := z5) m2.1), h1, h2⟩, hid hS9, hid (show Bx (set5 W1 b2 0 m2.1) _ _ _ from HC9.out.far5 _ (by omega))⟩
        refine mrg (fun n li ac wv => n = 3 ∧ li = #[true, true, true, true, true, true, true, true, true, true, true, true, true, true, true, true, true, true, true, true, true, true, true, true, true, false, false, false] ∧ ∃ b1 : Nat, ac = { tmps := #[mv 3 3 (some ⟨g0, 0, none⟩) 9 cp, .pointer (some ⟨w.heap.size, 0, none⟩), .pointer (some ⟨w.heap.size + 1, 0, none⟩), .bool false, .pointer (some ⟨w.heap.size + 1 + 1, 0, none⟩), .pointer (some ⟨w.heap.size + 1 + 1 + 1, 0, none⟩), .slice (some ⟨g0, 15, none⟩) 3 3, .slice (some ⟨g0, 30, none⟩) 3 3, .int .i64 (j : Int), .pointer (some ⟨wr.heap.size, 0, none⟩), .int .i64 (k : Int), .int .i64 (l : Int), .pointer (some ⟨b1, 0, none⟩), u13, u14, .agg #[.int .i64 3, .int .i64 3, .slice (some ⟨g0, 0, none⟩) 9 cp], .slice (some ⟨g0, 15, none⟩) 3 3, .agg #[.int .i64 3, .int .i64 3, .slice (some ⟨g0, 0, none⟩) 9 cp], .slice (some ⟨g0, 30, none⟩) 3 3, .agg #[.int .i64 3, .int .i64 3, .slice (some ⟨g0, 0, none⟩) 9 cp], .slice (some ⟨g0, 0, none⟩) 3 3, .int .i64 3, .int .i64 (j : Int), .bool true, .int .i64 (j : Int), .pointer (some ⟨g0, j * 5, none⟩), .agg #[.int .i64 xj.a, .int .i64 xj.b, .int .i64 xj.c, .int .i64 xj.d, .int .i64 xj.e], .int .i64 (j : Int), .int .i64 ((j : Int) + 1), .int .i64 (k : Int), .int .i64 (j : Int), .int .i64 ((j : Int) + 2), .int .i64 (l : Int), .slice (some ⟨g0, 15, none⟩) 3 3, .int .i64 (k : Int), .pointer (some ⟨g0, 15 + k * 5, none⟩), .agg #[.int .i64 sk.a, .int .i64 sk.b, .int .i64 sk.c, .int .i64 sk.d, .int .i64 sk.e], .slice (some ⟨g0, 30, none⟩) 3 3, .int .i64 (l : Int), .pointer (some ⟨g0, 30 + l * 5, none⟩), .agg #[.int .i64 tl.a, .int .i64 tl.b, .int .i64 tl.c, .int .i64 tl.d, .int .i64 tl.e], .tuple #[m1.1.v, .bool (!m1.2)], .agg #[.int .i64 m1.1.a, .int .i64 m1.1.b, .int .i64 m1.1.c, .int .i64 m1.1.d, .int .i64 m1.1.e], .bool (!m1.2), .agg #[.int .i64 m1.1.a, .int .i64 m1.1.b, .int .i64 m1.1.c, .int .i64 m1.1.d, .int .i64 m1.1.e], .slice (some ⟨g0, 15, none⟩) 3 3, .int .i64 (l : Int), .pointer (some ⟨g0, 15 + l * 5, none⟩), .agg #[.int .i64 sl.a, .int .i64 sl.b, .int .i64 sl.c, .int .i64 sl.d, .int .i64 sl.e], .slice (some ⟨g0, 30, none⟩) 3 3, .int .i64 (k : Int), .pointer (some ⟨g0, 30 + k * 5, none⟩), .agg #[.int .i64 tk.a, .int .i64 tk.b, .int .i64 tk.c, .int .i64 tk.d, .int .i64 tk.e], .tuple #[m2.1.v, .bool (!m2.2)], .agg #[.int .i64 m2.1.a, .int .i64 m2.1.b, .int .i64 m2.1.c, .int .i64 m2.1.d, .int .i64 m2.1.e], .bool (!m2.2), .agg #[.int .i64 m2.1.a, .int .i64 m2.1.b, .int .i64 m2.1.c, .int .i64 m2.1.d, .int .i64 m2.1.e], u57, u58, u59, u60, u61, u62, u63, u64, u65, u66, u67, u68, u69, u70, u71, u72, u73, u74, undef, undef, undef, undef], defers := [] } ∧ Hid (S8 w w5 wr g0 xs t xj wv) ∧ Hid (Bx wv (w.heap.size + 1 + 1) 164 #[.bool ((z || !(!m1.2)) || !(!m2.2))]) ∧ Hid (Bx wv b1 99 #[.int .i64 0, .int .i64 0, .int .i64 0, .int .i64 0, .int .i64 0]) ∧ w5.heap.size ≤ b1) ?_ (fun H4tf => ?_)
        · rintro n li ac wv ⟨rfl, rfl, b1, rfl, HS, HC, B1, h1⟩
          have hBz := hB.size
          have hlc := HC.out.lt
          have hls := HS.out.2.2.2.2.1
          have hlx := HS.out.2.2.2.1.lt
          have hl1 := B1.out.lt
          refine wpAnyX_one (i := 25) (o := _) rfl (by kernel_rfl) (fun K hK => ?_)
          go_simp
          refine hK.out _ _ (fun _ => HS.out.alloc _) (fun hS9 => ?_)
          clear hK K
          have hS9 := hS9 (by decide)
          try simp only [Act.put, List.setIfInBounds_toArray, List.set_cons_zero, List.set_cons_succ]
          exact H4tt _ _ _ _ ⟨rfl, by kernel_rfl, _, _, rfl, hid hS9, hid (HC.out.alloc _), hid (B1.out.alloc _), h1, hid (Bx.new rfl), HS.out.2.2.2.2.1, (fun e => absurd B1.out.lt (by omega))⟩
        refine mrg (fun n li ac wv => n = 3 ∧ li = #[true, true, true, true, true, true, true, true, true, true, true, true, true, true, true, true, true, true, true, true, true, true, true, true, false, true, false, false] ∧ ∃ b2 : Nat, ac = { tmps := #[mv 3 3 (some ⟨g0, 0, none⟩) 9 cp, .pointer (some ⟨w.heap.size, 0, none⟩), .pointer (some ⟨w.heap.size + 1, 0, none⟩), .bool false, .pointer (some ⟨w.heap.size + 1 + 1, 0, none⟩), .pointer (some ⟨w.heap.size + 1 + 1 + 1, 0, none⟩), .slice (some ⟨g0, 15, none⟩) 3 3, .slice (some ⟨g0, 30, none⟩) 3 3, .int .i64 (j : Int), .pointer (some ⟨wr.heap.size, 0, none⟩), .int .i64 (k : Int), .int .i64 (l : Int), u12, .pointer (some ⟨b2, 0, none⟩), u14, .agg #[.int .i64 3, .int .i64 3, .slice (some ⟨g0, 0, none⟩) 9 cp], .slice (some ⟨g0, 15, none⟩) 3 3, .agg #[.int .i64 3, .int .i64 3, .slice (some ⟨g0, 0, none⟩) 9 cp], .slice (some ⟨g0, 30, none⟩) 3 3, .agg #[.int .i64 3, .int .i64 3, .slice (some ⟨g0, 0, none⟩) 9 cp], .slice (some ⟨g0, 0, none⟩) 3 3, .int .i64 3, .int .i64 (j : Int), .bool true, .int .i64 (j : Int), .pointer (some ⟨g0, j * 5, none⟩), .agg #[.int .i64 xj.a, .int .i64 xj.b, .int .i64 xj.c, .int .i64 xj.d, .int .i64 xj.e], .int .i64 (j : Int), .int .i64 ((j : Int) + 1), .int .i64 (k : Int), .int .i64 (j : Int), .int .i64 ((j : Int) + 2), .int .i64 (l : Int), .slice (some ⟨g0, 15, none⟩) 3 3, .int .i64 (k : Int), .pointer (some ⟨g0, 15 + k * 5, none⟩), .agg #[.int .i64 sk.a, .int .i64 sk.b, .int .i64 sk.c, .int .i64 sk.d, .int .i64 sk.e], .slice (some ⟨g0, 30, none⟩) 3 3, .int .i64 (l : Int), .pointer (some ⟨g0, 30 + l * 5, none⟩), .agg #[.int .i64 tl.a, .int .i64 tl.b, .int .i64 tl.c, .int .i64 tl.d, .int .i64 tl.e], .tuple #[m1.1.v, .bool (!m1.2)], .agg #[.int .i64 m1.1.a, .int .i64 m1.1.b, .int .i64 m1.1.c, .int .i64 m1.1.d, .int .i64 m1.1.e], .bool (!m1.2), .agg #[.int .i64 m1.1.a, .int .i64 m1.1.b, .int .i64 m1.1.c, .int .i64 m1.1.d, .int .i64 m1.1.e], .slice (some ⟨g0, 15, none⟩) 3 3, .int .i64 (l : Int), .pointer (some ⟨g0, 15 + l * 5, none⟩), .agg #[.int .i64 sl.a, .int .i64 sl.b, .int .i64 sl.c, .int .i64 sl.d, .int .i64 sl.e], .slice (some ⟨g0, 30, none⟩) 3 3, .int .i64 (k : Int), .pointer (some ⟨g0, 30 + k * 5, none⟩), .agg #[.int .i64 tk.a, .int .i64 tk.b, .int .i64 tk.c, .int .i64 tk.d, .int .i64 tk.e], .tuple #[m2.1.v, .bool (!m2.2)], .agg #[.int .i64 m2.1.a, .int .i64 m2.1.b, .int .i64 m2.1.c, .int .i64 m2.1.d, .int .i64 m2.1.e], .bool (!m2.2), .agg #[.int .i64 m2.1.a, .int .i64 m2.1.b, .int .i64 m2.1.c, .int .i64 m2.1.d, .int .i64 m2.1.e], u57, u58, u59, u60, u61, u62, u63, u64, u65, u66, u67, u68, u69, u70, u71, u72, u73, u74, undef, undef, undef, undef], defers := [] } ∧ Hid (S8 w w5 wr g0 xs t xj wv) ∧ Hid (Bx wv (w.heap.size + 1 + 1) 164 #[.bool ((z || !(!m1.2)) || !(!m2.2))]) ∧ Hid (Bx wv b2 99 #[.int .i64 0, .int .i64 0, .int .i64 0, .int .i64 0, .int .i64 0]) ∧ w5.heap.size ≤ b2) ?_ (fun H4ft => ?_)
        · rintro n li ac wv ⟨rfl, rfl, b2, rfl, HS, HC, B2, h2⟩
          have hBz := hB.size
          have hlc := HC.out.lt
          have hls := HS.out.2.2.2.2.1
          have hlx := HS.out.2.2.2.1.lt
          have hl2 := B2.out.lt
          refine wpAnyX_one (i := 24) (o := _) rfl (by kernel_rfl) (fun K hK => ?_)
          go_simp
          refine hK.out _ _ (fun _ => HS.out.alloc _) (fun hS9 => ?_)
          clear hK K
          have hS9 := hS9 (by decide)
          try simp only [Act.put, List.setIfInBounds_toArray, List.set_cons_zero, List.set_cons_succ]
          exact H4tt _ _ _ _ ⟨rfl, by kernel_rfl, _, _, rfl, hid hS9, hid (HC.out.alloc _), hid (Bx.new rfl), HS.out.2.2.2.2.1, hid (B2.out.alloc _), h2, (fun e => absurd B2.out.lt (by omega))⟩
        refine mrg (fun n li ac wv => n = 4 ∧ li = #[true, true, true, true, true, true, true, true, true, true, true, true, true, true, true, true, true, true, true, true, true, true, true, true, false, false, false, false] ∧ ac = { tmps := #[mv 3 3 (some ⟨g0, 0, none⟩) 9 cp, .pointer (some ⟨w.heap.size, 0, none⟩), .pointer (some ⟨w.heap.size + 1, 0, none⟩), .bool false, .pointer (some ⟨w.heap.size + 1 + 1, 0, none⟩), .pointer (some ⟨w.heap.size + 1 + 1 + 1, 0, none⟩), .slice (some ⟨g0, 15, none⟩) 3 3, .slice (some ⟨g0, 30, none⟩) 3 3, .int .i64 (j : Int), .pointer (some ⟨wr.heap.size, 0, none⟩), .int .i64 (k : Int), .int .i64 (l : Int), u12, u13, u14, .agg #[.int .i64 3, .int .i64 3, .slice (some ⟨g0, 0, none⟩) 9 cp], .slice (some ⟨g0, 15, none⟩) 3 3, .agg #[.int .i64 3, .int .i64 3, .slice (some ⟨g0, 0, none⟩) 9 cp], .slice (some ⟨g0, 30, none⟩) 3 3, .agg #[.int .i64 3, .int .i64 3, .slice (some ⟨g0, 0, none⟩) 9 cp], .slice (some ⟨g0, 0, none⟩) 3 3, .int .i64 3, .int .i64 (j : Int), .bool true, .int .i64 (j : Int), .pointer (some ⟨g0, j * 5, none⟩), .agg #[.int .i64 xj.a, .int .i64 xj.b, .int .i64 xj.c, .int .i64 xj.d, .int .i64 xj.e], .int .i64 (j : Int), .int .i64 ((j : Int) + 1), .int .i64 (k : Int), .int .i64 (j : Int), .int .i64 ((j : Int) + 2), .int .i64 (l : Int), .slice (some ⟨g0, 15, none⟩) 3 3, .int .i64 (k : Int), .pointer (some ⟨g0, 15 + k * 5, none⟩), .agg #[.int .i64 sk.a, .int .i64 sk.b, .int .i64 sk.c, .int .i64 sk.d, .int .i64 sk.e], .slice (some ⟨g0, 30, none⟩) 3 3, .int .i64 (l : Int), .pointer (some ⟨g0, 30 + l * 5, none⟩), .agg #[.int .i64 tl.a, .int .i64 tl.b, .int .i64 tl.c, .int .i64 tl.d, .int .i64 tl.e], .tuple #[m1.1.v, .bool (!m1.2)], .agg #[.int .i64 m1.1.a, .int .i64 m1.1.b, .int .i64 m1.1.c, .int .i64 m1.1.d, .int .i64 m1.1.e], .bool (!m1.2), .agg #[.int .i64 m1.1.a, .int .i64 m1.1.b, .int .i64 m1.1.c, .int .i64 m1.1.d, .int .i64 m1.1.e], .slice (some ⟨g0, 15, none⟩) 3 3, .int .i64 (l : Int), .pointer (some ⟨g0, 15 + l * 5, none⟩), .agg #[.int .i64 sl.a, .int .i64 sl.b, .int .i64 sl.c, .int .i64 sl.d, .int .i64 sl.e], .slice (some ⟨g0, 30, none⟩) 3 3, .int .i64 (k : Int), .pointer (some ⟨g0, 30 + k * 5, none⟩), .agg #[.int .i64 tk.a, .int .i64 tk.b, .int .i64 tk.c, .int .i64 tk.d, .int .i64 tk.e], .tuple #[m2.1.v, .bool (!m2.2)], .agg #[.int .i64 m2.1.a, .int .i64 m2.1.b, .int .i64 m2.1.c, .int .i64 m2.1.d, .int .i64 m2.1.e], .bool (!m2.2), .agg #[.int .i64 m2.1.a, .int .i64 m2.1.b, .int .i64 m2.1.c, .int .i64 m2.1.d, .int .i64 m2.1.e], u57, u58, u59, u60, u61, u62, u63, u64, u65, u66, u67, u68, u69, u70, u71, u72, u73, u74, undef, undef, undef, undef], defers := [] } ∧ Hid (S8 w w5 wr g0 xs t xj wv) ∧ Hid (Bx wv (w.heap.size + 1 + 1) 164 #[.bool ((z || !(!m1.2)) || !(!m2.2))])) ?_ (fun H4ff => ?_)
        · rintro n li ac wv ⟨rfl, rfl, rfl, HS, HC⟩
          have hBz := hB.size
          have hlc := HC.out.lt
          have hls := HS.out.2.2.2.2.1
          have hlx := HS.out.2.2.2.1.lt
          refine wpAnyX_two (i := 24) (j := 25) (oi := _) (oj := _) rfl rfl (by kernel_rfl) (fun K hK => ?_) (fun K hK => ?_)
          · go_simp
            refine hK.out _ _ (fun _ => HS.out.alloc _) (fun hS9 => ?_)
            clear hK K
            have hS9 := hS9 (by decide)
            try simp only [Act.put, List.setIfInBounds_toArray, List.set_cons_zero, List.set_cons_succ]
            exact H4tf _ _ _ _ ⟨rfl, by kernel_rfl, _, rfl, hid hS9, hid (HC.out.alloc _), hid (Bx.new rfl), HS.out.2.2.2.2.1⟩
          · go_simp
            refine hK.out _ _ (fun _ => HS.out.alloc _) (fun hS9 => ?_)
            clear hK K
            have hS9 := hS9 (by decide)
            try simp only [Act.put, List.setIfInBounds_toArray, List.set_cons_zero, List.set_cons_succ]
            exact H4ft _ _ _ _ ⟨rfl, by kernel_rfl, _, rfl, hid hS9, hid (HC.out.alloc _), hid (Bx.new rfl), HS.out.2.2.2.2.1⟩
        refine mrg (fun n li ac wv => n = 3 ∧ li = #[true, true, true, true, true, true, true, true, true, true, true, true, true, true, true, true, true, true, true, true, true, true, true, false, true, true, false, false] ∧ ∃ b1 b2 : Nat, ac = { tmps := #[mv 3 3 (some ⟨g0, 0, none⟩) 9 cp, .pointer (some ⟨w.heap.size, 0, none⟩), .pointer (some ⟨w.heap.size + 1, 0, none⟩), .bool false, .pointer (some ⟨w.heap.size + 1 + 1, 0, none⟩), .pointer (some ⟨w.heap.size + 1 + 1 + 1, 0, none⟩), .slice (some ⟨g0, 15, none⟩) 3 3, .slice (some ⟨g0, 30, none⟩) 3 3, .int .i64 (j : Int), .pointer (some ⟨wr.heap.size, 0, none⟩), .int .i64 (k : Int), .int .i64 (l : Int), .pointer (some ⟨b1, 0, none⟩), .pointer (some ⟨b2, 0, none⟩), u14, .agg #[.int .i64 3, .int .i64 3, .slice (some ⟨g0, 0, none⟩) 9 cp], .slice (some ⟨g0, 15, none⟩) 3 3, .agg #[.int .i64 3, .int .i64 3, .slice (some ⟨g0, 0, none⟩) 9 cp], .slice (some ⟨g0, 30, none⟩) 3 3, .agg #[.int .i64 3, .int .i64 3, .slice (some ⟨g0, 0, none⟩) 9 cp], .slice (some ⟨g0, 0, none⟩) 3 3, .int .i64 3, .int .i64 (j : Int), .bool true, .int .i64 (j : Int), .pointer (some ⟨g0, j * 5, none⟩), .agg #[.int .i64 xj.a, .int .i64 xj.b, .int .i64 xj.c, .int .i64 xj.d, .int .i64 xj.e], .int .i64 (j : Int), .int .i64 ((j : Int) + 1), .int .i64 (k : Int), .int .i64 (j : Int), .int .i64 ((j : Int) + 2), .int .i64 (l : Int), .slice (some ⟨g0, 15, none⟩) 3 3, .int .i64 (k : Int), .pointer (some ⟨g0, 15 + k * 5, none⟩), .agg #[.int .i64 sk.a, .int .i64 sk.b, .int .i64 sk.c, .int .i64 sk.d, .int .i64 sk.e], .slice (some ⟨g0, 30, none⟩) 3 3, .int .i64 (l : Int), .pointer (some ⟨g0, 30 + l * 5, none⟩), .agg #[.int .i64 tl.a, .int .i64 tl.b, .int .i64 tl.c, .int .i64 tl.d, .int .i64 tl.e], .tuple #[m1.1.v, .bool (!m1.2)], .agg #[.int .i64 m1.1.a, .int .i64 m1.1.b, .int .i64 m1.1.c, .int .i64 m1.1.d, .int .i64 m1.1.e], .bool (!m1.2), .agg #[.int .i64 m1.1.a, .int .i64 m1.1.b, .int .i64 m1.1.c, .int .i64 m1.1.d, .int .i64 m1.1.e], .slice (some ⟨g0, 15, none⟩) 3 3, .int .i64 (l : Int), .pointer (some ⟨g0, 15 + l * 5, none⟩), .agg #[.int .i64 sl.a, .int .i64 sl.b, .int .i64 sl.c, .int .i64 sl.d, .int .i64 sl.e], .slice (some ⟨g0, 30, none⟩) 3 3, .int .i64 (k : Int), .pointer (some ⟨g0, 30 + k * 5, none⟩), .agg #[.int .i64 tk.a, .int .i64 tk.b, .int .i64 tk.c, .int .i64 tk.d, .int .i64 tk.e], .tuple #[m2.1.v, .bool (!m2.2)], .agg #[.int .i64 m2.1.a, .int .i64 m2.1.b, .int .i64 m2.1.c, .int .i64 m2.1.d, .int .i64 m2.1.e], .bool (!m2.2), u56, u57, u58, u59, u60, u61, u62, u63, u64, u65, u66, u67, u68, u69, u70, u71, u72, u73, u74, undef, undef, undef, undef], defers := [] } ∧ Hid (S8 w w5 wr g0 xs t xj wv) ∧ Hid (Bx wv (w.heap.size + 1 + 1) 164 #[.bool (z || !(!m1.2))]) ∧ Hid (Bx wv b1 99 #[.int .i64 0, .int .i64 0, .int .i64 0, .int .i64 0, .int .i64 0]) ∧ w5.heap.size ≤ b1 ∧ Hid (Bx wv b2 99 #[.int .i64 0, .int .i64 0, .int .i64 0, .int .i64 0, .int .i64 0]) ∧ w5.heap.size ≤ b2 ∧ b1 ≠ b2) ?_ (fun H3tt => ?_)
        · rintro n li ac wv ⟨rfl, rfl, b1, b2, rfl, HS, HC, B1, h1, B2, h2, h12⟩
          have hBz := hB.size
          have hlc := HC.out.lt
          have hls := HS.out.2.2.2.2.1
          have hlx := HS.out.2.2.2.1.lt
          have hl1 := B1.out.lt
          have hl2 := B2.out.lt
          refine wpAnyX_one (i := 23) (o := _) rfl (by kernel_rfl) (fun K hK => ?_)
          go_simp
          refine (kp_i (x := m2.1) (ok := !m2.2) (z := (z || !(!m1.2))) (g := w.heap.size + 1 + 1) HC.out).mono ?_
          rintro ee v ⟨rfl, hv⟩
          refine hK.out _ _ (fun _ => HS.out.badly hv (by omega) hgl (by omega) (by omega) (by omega)) (fun hS9 => ?_)
          clear hK K
          have hS9 := hS9 (by decide)
          try simp only [Act.put, List.setIfInBounds_toArray, List.set_cons_zero, List.set_cons_succ]
          exact H4tt _ _ _ _ ⟨rfl, by kernel_rfl, _, _, rfl, hid hS9, hid (Bx.bad HC.out hv), hid (B1.out.badly hv (by omega)), h1, hid (B2.out.badly hv (by omega)), h2, h12⟩
        refine mrg (fun n li ac wv => n = 4 ∧ li = #[true, true, true, true, true, true, true, true, true, true, true, true, true, true, true, true, true, true, true, true, true, true, true, false, true, false, false, false] ∧ ∃ b1 : Nat, ac = { tmps := #[mv 3 3 (some ⟨g0, 0, none⟩) 9 cp, .pointer (some ⟨w.heap.size, 0, none⟩), .pointer (some ⟨w.heap.size + 1, 0, none⟩), .bool false, .pointer (some ⟨w.heap.size + 1 + 1, 0, none⟩), .pointer (some ⟨w.heap.size + 1 + 1 + 1, 0, none⟩), .slice (some ⟨g0, 15, none⟩) 3 3, .slice (some ⟨g0, 30, none⟩) 3 3, .int .i64 (j : Int), .pointer (some ⟨wr.heap.size, 0, none⟩), .int .i64 (k : Int), .int .i64 (l : Int), .pointer (some ⟨b1, 0, none⟩), u13, u14, .agg #[.int .i64 3, .int .i64 3, .slice (some ⟨g0, 0, none⟩) 9 cp], .slice (some ⟨g0, 15, none⟩) 3 3, .agg #[.int .i64 3, .int .i64 3, .slice (some ⟨g0, 0, none⟩) 9 cp], .slice (some ⟨g0, 30, none⟩) 3 3, .agg #[.int .i64 3, .int .i64 3, .slice (some ⟨g0, 0, none⟩) 9 cp], .slice (some ⟨g0, 0, none⟩) 3 3, .int .i64 3, .int .i64 (j : Int), .bool true, .int .i64 (j : Int), .pointer (some ⟨g0, j * 5, none⟩), .agg #[.int .i64 xj.a, .int .i64 xj.b, .int .i64 xj.c, .int .i64 xj.d, .int .i64 xj.e], .int .i64 (j : Int), .int .i64 ((j : Int) + 1), .int .i64 (k : Int), .int .i64 (j : Int), .int .i64 ((j : Int) + 2), .int .i64 (l : Int), .slice (some ⟨g0, 15, none⟩) 3 3, .int .i64 (k : Int), .pointer (some ⟨g0, 15 + k * 5, none⟩), .agg #[.int .i64 sk.a, .int .i64 sk.b, .int .i64 sk.c, .int .i64 sk.d, .int .i64 sk.e], .slice (some ⟨g0, 30, none⟩) 3 3, .int .i64 (l : Int), .pointer (some ⟨g0, 30 + l * 5, none⟩), .agg #[.int .i64 tl.a, .int .i64 tl.b, .int .i64 tl.c, .int .i64 tl.d, .int .i64 tl.e], .tuple #[m1.1.v, .bool (!m1.2)], .agg #[.int .i64 m1.1.a, .int .i64 m1.1.b, .int .i64 m1.1.c, .int .i64 m1.1.d, .int .i64 m1.1.e], .bool (!m1.2), .agg #[.int .i64 m1.1.a, .int .i64 m1.1.b, .int .i64 m1.1.c, .int .i64 m1.1.d, .int .i64 m1.1.e], .slice (some ⟨g0, 15, none⟩) 3 3, .int .i64 (l : Int), .pointer (some ⟨g0, 15 + l * 5, none⟩), .agg #[.int .i64 sl.a, .int .i64 sl.b, .int .i64 sl.c, .int .i64 sl.d, .int .i64 sl.e], .slice (some ⟨g0, 30, none⟩) 3 3, .int .i64 (k : Int), .pointer (some ⟨g0, 30 + k * 5, none⟩), .agg #[.int .i64 tk.a, .int .i64 tk.b, .int .i64 tk.c, .int .i64 tk.d, .int .i64 tk.e], .tuple #[m2.1.v, .bool (!m2.2)], .agg #[.int .i64 m2.1.a, .int .i64 m2.1.b, .int .i64 m2.1.c, .int .i64 m2.1.d, .int .i64 m2.1.e], .bool (!m2.2), u56, u57, u58, u59, u60, u61, u62, u63, u64, u65, u66, u67, u68, u69, u70, u71, u72, u73, u74, undef, undef, undef, undef], defers := [] } ∧ Hid (S8 w w5 wr g0 xs t xj wv) ∧ Hid (Bx wv (w.heap.size + 1 + 1) 164 #[.bool (z || !(!m1.2))]) ∧ Hid (Bx wv b1 99 #[.int .i64 0, .int .i64 0, .int .i64 0, .int .i64 0, .int .i64 0]) ∧ w5.heap.size ≤ b1) ?_ (fun H3tf => ?_)
        · rintro n li ac wv ⟨rfl, rfl, b1, rfl, HS, HC, B1, h1⟩
          have hBz := hB.size
          have hlc := HC.out.lt
          have hls := HS.out.2.2.2.2.1
          have hlx := HS.out.2.2.2.1.lt
          have hl1 := B1.out.lt
          refine wpAnyX_two (i := 23) (j := 25) (oi := _) (oj := _) rfl rfl (by kernel_rfl) (fun K hK => ?_) (fun K hK => ?_)
          · go_simp
            refine (kp_i (x := m2.1) (ok := !m2.2) (z := (z || !(!m1.2))) (g := w.heap.size + 1 + 1) HC.out).mono ?_
            rintro ee v ⟨rfl, hv⟩
            refine hK.out _ _ (fun _ => HS.out.badly hv (by omega) hgl (by omega) (by omega) (by omega)) (fun hS9 => ?_)
            clear hK K
            have hS9 := hS9 (by decide)
            try simp only [Act.put, List.setIfInBounds_toArray, List.set_cons_zero, List.set_cons_succ]
            exact H4tf _ _ _ _ ⟨rfl, by kernel_rfl, _, rfl, hid hS9, hid (Bx.bad HC.out hv), hid (B1.out.badly hv (by omega)), h1⟩
          · go_simp
            refine hK.out _ _ (fun _ => HS.out.alloc _) (fun hS9 => ?_)
            clear hK K
            have hS9 := hS9 (by decide)
            try simp only [Act.put, List.setIfInBounds_toArray, List.set_cons_zero, List.set_cons_succ]
            exact H3tt _ _ _ _ ⟨rfl, by kernel_rfl, _, _, rfl, hid hS9, hid (HC.out.alloc _), hid (B1.out.alloc _), h1, hid (Bx.new rfl), HS.out.2.2.2.2.1, (fun e => absurd B1.out.lt (by omega))⟩
        refine mrg (fun n li ac wv => n = 4 ∧ li = #[true, true, true, true, true, true, true, true, true, true, true, true, true, true, true, true, true, true, true, true, true, true, true, false, false, true, false, false] ∧ ∃ b2 : Nat, ac = { tmps := #[mv 3 3 (some ⟨g0, 0, none⟩) 9 cp, .pointer (some ⟨w.heap.size, 0, none⟩), .pointer (some ⟨w.heap.size + 1, 0, none⟩), .bool false, .pointer (some ⟨w.heap.size + 1 + 1, 0, none⟩), .pointer (some ⟨w.heap.size + 1 + 1 + 1, 0, none⟩), .slice (some ⟨g0, 15, none⟩) 3 3, .slice (some ⟨g0, 30, none⟩) 3 3, .int .i64 (j : Int), .pointer (some ⟨wr.heap.size, 0, none⟩), .int .i64 (k : Int), .int .i64 (l : Int), u12, .pointer (some ⟨b2, 0, none⟩), u14, .agg #[.int .i64 3, .int .i64 3, .slice (some ⟨g0, 0, none⟩) 9 cp], .slice (some ⟨g0, 15, none⟩) 3 3, .agg #[.int .i64 3, .int .i64 3, .slice (some ⟨g0, 0, none⟩) 9 cp], .slice (some ⟨g0, 30, none⟩) 3 3, .agg #[.int .i64 3, .int .i64 3, .slice (some ⟨g0, 0, none⟩) 9 cp], .slice (some ⟨g0, 0, none⟩) 3 3, .int .i64 3, .int .i64 (j : Int), .bool true, .int .i64 (j : Int), .pointer (some ⟨g0, j * 5, none⟩), .agg #[.int .i64 xj.a, .int .i64 xj.b, .int .i64 xj.c, .int .i64 xj.d, .int .i64 xj.e], .int .i64 (j : Int), .int .i64 ((j : Int) + 1), .int .i64 (k : Int), .int .i64 (j : Int), .int .i64 ((j : Int) + 2), .int .i64 (l : Int), .slice (some ⟨g0, 15, none⟩) 3 3, .int .i64 (k : Int), .pointer (some ⟨g0, 15 + k * 5, none⟩), .agg #[.int .i64 sk.a, .int .i64 sk.b, .int .i64 sk.c, .int .i64 sk.d, .int .i64 sk.e], .slice (some ⟨g0, 30, none⟩) 3 3, .int .i64 (l : Int), .pointer (some ⟨g0, 30 + l * 5, none⟩), .agg #[.int .i64 tl.a, .int .i64 tl.b, .int .i64 tl.c, .int .i64 tl.d, .int .i64 tl.e], .tuple #[m1.1.v, .bool (!m1.2)], .agg #[.int .i64 m1.1.a, .int .i64 m1.1.b, .int .i64 m1.1.c, .int .i64 m1.1.d, .int .i64 m1.1.e], .bool (!m1.2), .agg #[.int .i64 m1.1.a, .int .i64 m1.1.b, .int .i64 m1.1.c, .int .i64 m1.1.d, .int .i64 m1.1.e], .slice (some ⟨g0, 15, none⟩) 3 3, .int .i64 (l : Int), .pointer (some ⟨g0, 15 + l * 5, none⟩), .agg #[.int .i64 sl.a, .int .i64 sl.b, .int .i64 sl.c, .int .i64 sl.d, .int .i64 sl.e], .slice (some ⟨g0, 30, none⟩) 3 3, .int .i64 (k : Int), .pointer (some ⟨g0, 30 + k * 5, none⟩), .agg #[.int .i64 tk.a, .int .i64 tk.b, .int .i64 tk.c, .int .i64 tk.d, .int .i64 tk.e], .tuple #[m2.1.v, .bool (!m2.2)], .agg #[.int .i64 m2.1.a, .int .i64 m2.1.b, .int .i64 m2.1.c, .int .i64 m2.1.d, .int .i64 m2.1.e], .bool (!m2.2), u56, u57, u58, u59, u60, u61, u62, u63, u64, u65, u66, u67, u68, u69, u70, u71, u72, u73, u74, undef, undef, undef, undef], defers := [] } ∧ Hid (S8 w w5 wr g0 xs t xj wv) ∧ Hid (Bx wv (w.heap.size + 1 + 1) 164 #[.bool (z || !(!m1.2))]) ∧ Hid (Bx wv b2 99 #[.int .i64 0, .int .i64 0, .int .i64 0, .int .i64 0, .int .i64 0]) ∧ w5.heap.size ≤ b2) ?_ (fun H3ft => ?_)
        · rintro n li ac wv ⟨rfl, rfl, b2, rfl, HS, HC, B2, h2⟩
          have hBz := hB.size
          have hlc := HC.out.lt
          have hls := HS.out.2.2.2.2.1
          have hlx := HS.out.2.2.2.1.lt
          have hl2 := B2.out.lt
          refine wpAnyX_two (i := 23) (j := 24) (oi := _) (oj := _) rfl rfl (by kernel_rfl) (fun K hK => ?_) (fun K hK => ?_)
          · go_simp
            refine (kp_i (x := m2.1) (ok := !m2.2) (z := (z || !(!m1.2))) (g := w.heap.size + 1 + 1) HC.out).mono ?_
            rintro ee v ⟨rfl, hv⟩
            refine hK.out _ _ (fun _ => HS.out.badly hv (by omega) hgl (by omega) (by omega) (by omega)) (fun hS9 => ?_)
            clear hK K
            have hS9 := hS9 (by decide)
            try simp only [Act.put, List.setIfInBounds_toArray, List.set_cons_zero, List.set_cons_succ]
            exact H4ft _ _ _ _ ⟨rfl, by kernel_rfl, _, rfl, hid hS9, hid (Bx.bad HC.out hv), hid (B2.out.badly hv (by omega)), h2⟩
          · go_simp
            refine hK.out _ _ (fun _ => HS.out.alloc _) (fun hS9 => ?_)
            clear hK K
            have hS9 := hS9 (by decide)
            try simp only [Act.put, List.setIfInBounds_toArray, List.set_cons_zero, List.set_cons_succ]
            exact H3tt _ _ _ _ ⟨rfl, by kernel_rfl, _, _, rfl, hid hS9, hid (HC.out.alloc _), hid (Bx.new rfl), HS.out.2.2.2.2.1, hid (B2.out.alloc _), h2, (fun e => absurd B2.out.lt (by omega))⟩
        refine mrg (fun n li ac wv => n = 5 ∧ li = #[true, true, true, true, true, true, true, true, true, true, true, true, true, true, true, true, true, true, true, true, true, true, true, false, false, false, false, false] ∧ ac = { tmps := #[mv 3 3 (some ⟨g0, 0, none⟩) 9 cp, .pointer (some ⟨w.heap.size, 0, none⟩), .pointer (some ⟨w.heap.size + 1, 0, none⟩), .bool false, .pointer (some ⟨w.heap.size + 1 + 1, 0, none⟩), .pointer (some ⟨w.heap.size + 1 + 1 + 1, 0, none⟩), .slice (some ⟨g0, 15, none⟩) 3 3, .slice (some ⟨g0, 30, none⟩) 3 3, .int .i64 (j : Int), .pointer (some ⟨wr.heap.size, 0, none⟩), .int .i64 (k : Int), .int .i64 (l : Int), u12, u13, u14, .agg #[.int .i64 3, .int .i64 3, .slice (some ⟨g0, 0, none⟩) 9 cp], .slice (some ⟨g0, 15, none⟩) 3 3, .agg #[.int .i64 3, .int .i64 3, .slice (some ⟨g0, 0, none⟩) 9 cp], .slice (some ⟨g0, 30, none⟩) 3 3, .agg #[.int .i64 3, .int .i64 3, .slice (some ⟨g0, 0, none⟩) 9 cp], .slice (some ⟨g0, 0, none⟩) 3 3, .int .i64 3, .int .i64 (j : Int), .bool true, .int .i64 (j : Int), .pointer (some ⟨g0, j * 5, none⟩), .agg #[.int .i64 xj.a, .int .i64 xj.b, .int .i64 xj.c, .int .i64 xj.d, .int .i64 xj.e], .int .i64 (j : Int), .int .i64 ((j : Int) + 1), .int .i64 (k : Int), .int .i64 (j : Int), .int .i64 ((j : Int) + 2), .int .i64 (l : Int), .slice (some ⟨g0, 15, none⟩) 3 3, .int .i64 (k : Int), .pointer (some ⟨g0, 15 + k * 5, none⟩), .agg #[.int .i64 sk.a, .int .i64 sk.b, .int .i64 sk.c, .int .i64 sk.d, .int .i64 sk.e], .slice (some ⟨g0, 30, none⟩) 3 3, .int .i64 (l : Int), .pointer (some ⟨g0, 30 + l * 5, none⟩), .agg #[.int .i64 tl.a, .int .i64 tl.b, .int .i64 tl.c, .int .i64 tl.d, .int .i64 tl.e], .tuple #[m1.1.v, .bool (!m1.2)], .agg #[.int .i64 m1.1.a, .int .i64 m1.1.b, .int .i64 m1.1.c, .int .i64 m1.1.d, .int .i64 m1.1.e], .bool (!m1.2), .agg #[.int .i64 m1.1.a, .int .i64 m1.1.b, .int .i64 m1.1.c, .int .i64 m1.1.d, .int .i64 m1.1.e], .slice (some ⟨g0, 15, none⟩) 3 3, .int .i64 (l : Int), .pointer (some ⟨g0, 15 + l * 5, none⟩), .agg #[.int .i64 sl.a, .int .i64 sl.b, .int .i64 sl.c, .int .i64 sl.d, .int .i64 sl.e], .slice (some ⟨g0, 30, none⟩) 3 3, .int .i64 (k : Int), .pointer (some ⟨g0, 30 + k * 5, none⟩), .agg #[.int .i64 tk.a, .int .i64 tk.b, .int .i64 tk.c, .int .i64 tk.d, .int .i64 tk.e], .tuple #[m2.1.v, .bool (!m2.2)], .agg #[.int .i64 m2.1.a, .int .i64 m2.1.b, .int .i64 m2.1.c, .int .i64 m2.1.d, .int .i64 m2.1.e], .bool (!m2.2), u56, u57, u58, u59, u60, u61, u62, u63, u64, u65, u66, u67, u68, u69, u70, u71, u72, u73, u74, undef, undef, undef, undef], defers := [] } ∧ Hid (S8 w w5 wr g0 xs t xj wv) ∧ Hid (Bx wv (w.heap.size + 1 + 1) 164 #[.bool (z || !(!m1.2))])) ?_ (fun H3ff => ?_)
        · rintro n li ac wv ⟨rfl, rfl, rfl, HS, HC⟩
          have hBz := hB.size
          have hlc := HC.out.lt
          have hls := HS.out.2.2.2.2.1
          have hlx := HS.out.2.2.2.1.lt
          refine wpAnyX_three (i := 23) (j := 24) (k := 25) (oi := _) (oj := _) (ok := _) rfl rfl rfl (by kernel_rfl) (fun K hK => ?_) (fun K hK => ?_) (fun K hK => ?_)
          · go_simp
            refine (kp_i (x := m2.1) (ok := !m2.2) (z := (z || !(!m1.2))) (g := w.heap.size + 1 + 1) HC.out).mono ?_
            rintro ee v ⟨rfl, hv⟩
            refine hK.out _ _ (fun _ => HS.out.badly hv (by omega) hgl (by omega) (by omega) (by omega)) (fun hS9 => ?_)
            clear hK K
            have hS9 := hS9 (by decide)
            try simp only [Act.put, List.setIfInBounds_toArray, List.set_cons_zero, List.set_cons_succ]
            exact H4ff _ _ _ _ ⟨rfl, by kernel_rfl, rfl, hid hS9, hid (Bx.bad HC.out hv)⟩
          · go_simp
            refine hK.out _ _ (fun _ => HS.out.alloc _) (fun hS9 => ?_)
            clear hK K
            have hS9 := hS9 (by decide)
            try simp only [Act.put, List.setIfInBounds_toArray, List.set_cons_zero, List.set_cons_succ]
            exact H3tf _ _ _ _ ⟨rfl, by kernel_rfl, _, rfl, hid hS9, hid (HC.out.alloc _), hid (Bx.new rfl), HS.out.2.2.2.2.1⟩
          · go_simp
            refine hK.out _ _ (fun _ => HS.out.alloc _) (fun hS9 => ?_)
            clear hK K
            have hS9 := hS9 (by decide)
            try simp only [Act.put, List.setIfInBounds_toArray, List.set_cons_zero, List.set_cons_succ]
            exact H3ft _ _ _ _ ⟨rfl, by kernel_rfl, _, rfl, hid hS9, hid (HC.out.alloc _), hid (Bx.new rfl), HS.out.2.2.2.2.1⟩
        refine mrg (fun n li ac wv => n = 6 ∧ li = #[true, true, true, true, true, true, true, true, true, true, true, true, true, true, true, true, true, true, true, true, false, false, false, false, true, true, false, false] ∧ ∃ b1 b2 : Nat, ac = { tmps := #[mv 3 3 (some ⟨g0, 0, none⟩) 9 cp, .pointer (some ⟨w.heap.size, 0, none⟩), .pointer (some ⟨w.heap.size + 1, 0, none⟩), .bool false, .pointer (some ⟨w.heap.size + 1 + 1, 0, none⟩), .pointer (some ⟨w.heap.size + 1 + 1 + 1, 0, none⟩), .slice (some ⟨g0, 15, none⟩) 3 3, .slice (some ⟨g0, 30, none⟩) 3 3, .int .i64 (j : Int), .pointer (some ⟨wr.heap.size, 0, none⟩), .int .i64 (k : Int), .int .i64 (l : Int), .pointer (some ⟨b1, 0, none⟩), .pointer (some ⟨b2, 0, none⟩), u14, .agg #[.int .i64 3, .int .i64 3, .slice (some ⟨g0, 0, none⟩) 9 cp], .slice (some ⟨g0, 15, none⟩) 3 3, .agg #[.int .i64 3, .int .i64 3, .slice (some ⟨g0, 0, none⟩) 9 cp], .slice (some ⟨g0, 30, none⟩) 3 3, .agg #[.int .i64 3, .int .i64 3, .slice (some ⟨g0, 0, none⟩) 9 cp], .slice (some ⟨g0, 0, none⟩) 3 3, .int .i64 3, .int .i64 (j : Int), .bool true, .int .i64 (j : Int), .pointer (some ⟨g0, j * 5, none⟩), .agg #[.int .i64 xj.a, .int .i64 xj.b, .int .i64 xj.c, .int .i64 xj.d, .int .i64 xj.e], .int .i64 (j : Int), .int .i64 ((j : Int) + 1), .int .i64 (k : Int), .int .i64 (j : Int), .int .i64 ((j : Int) + 2), .int .i64 (l : Int), .slice (some ⟨g0, 15, none⟩) 3 3, .int .i64 (k : Int), .pointer (some ⟨g0, 15 + k * 5, none⟩), .agg #[.int .i64 sk.a, .int .i64 sk.b, .int .i64 sk.c, .int .i64 sk.d, .int .i64 sk.e], .slice (some ⟨g0, 30, none⟩) 3 3, .int .i64 (l : Int), .pointer (some ⟨g0, 30 + l * 5, none⟩), .agg #[.int .i64 tl.a, .int .i64 tl.b, .int .i64 tl.c, .int .i64 tl.d, .int .i64 tl.e], .tuple #[m1.1.v, .bool (!m1.2)], .agg #[.int .i64 m1.1.a, .int .i64 m1.1.b, .int .i64 m1.1.c, .int .i64 m1.1.d, .int .i64 m1.1.e], .bool (!m1.2), .agg #[.int .i64 m1.1.a, .int .i64 m1.1.b, .int .i64 m1.1.c, .int .i64 m1.1.d, .int .i64 m1.1.e], .slice (some ⟨g0, 15, none⟩) 3 3, .int .i64 (l : Int), .pointer (some ⟨g0, 15 + l * 5, none⟩), .agg #[.int .i64 sl.a, .int .i64 sl.b, .int .i64 sl.c, .int .i64 sl.d, .int .i64 sl.e], .slice (some ⟨g0, 30, none⟩) 3 3, .int .i64 (k : Int), .pointer (some ⟨g0, 30 + k * 5, none⟩), .agg #[.int .i64 tk.a, .int .i64 tk.b, .int .i64 tk.c, .int .i64 tk.d, .int .i64 tk.e], u53, u54, u55, u56, u57, u58, u59, u60, u61, u62, u63, u64, u65, u66, u67, u68, u69, u70, u71, u72, u73, u74, undef, undef, undef, undef], defers := [] } ∧ Hid (S8 w w5 wr g0 xs t xj wv) ∧ Hid (Bx wv (w.heap.size + 1 + 1) 164 #[.bool (z || !(!m1.2))]) ∧ Hid (Bx wv b1 99 #[.int .i64 0, .int .i64 0, .int .i64 0, .int .i64 0, .int .i64 0]) ∧ w5.heap.size ≤ b1 ∧ Hid (Bx wv b2 99 #[.int .i64 0, .int .i64 0, .int .i64 0, .int .i64 0, .int .i64 0]) ∧ w5.heap.size ≤ b2 ∧ b1 ≠ b2) ?_ (fun H2tt => ?_)
        · rintro n li ac wv ⟨rfl, rfl, b1, b2, rfl, HS, HC, B1, h1, B2, h2, h12⟩
          have hBz := hB.size
          have hlc := HC.out.lt
          have hls := HS.out.2.2.2.2.1
          have hlx := HS.out.2.2.2.1.lt
          have hl1 := B1.out.lt
          have hl2 := B2.out.lt
          refine wpAnyX_one (i := 20) (o := _) rfl (by kernel_rfl) (fun K hK => ?_)
          go_simp
          refine (HQm2.out _).mono ?_
          rintro ee v ⟨rfl, hv⟩
          refine hK.out _ _ (fun _ => HS.out.mono hv) (fun hS9 => ?_)
          clear hK K
          have hS9 := hS9 (by decide)
          try simp only [Act.put, List.setIfInBounds_toArray, List.set_cons_zero, List.set_cons_succ]
          refine wpAnyX_take (i := 21) (oi := _) (v := ?_) rfl (by kernel_rfl) (by kernel_rfl) (by kernel_rfl) (by kernel_rfl) (fun _ _ _ h => h) (Or.inl ⟨by rfl, ?_⟩) hS9 ?_
          rotate_left 1
          · (intro W8 hSw; go_simp; (try with_reducible rfl))
          change wpAnyX _ _ _ _ _ _ _ _ (Act.put _ (some 54) _) _
          try simp only [Act.put, List.setIfInBounds_toArray, List.set_cons_zero, List.set_cons_succ]
          refine wpAnyX_take (i := 22) (oi := _) (v := ?_) rfl (by kernel_rfl) (by kernel_rfl) (by kernel_rfl) (by kernel_rfl) (fun _ _ _ h => h) (Or.inl ⟨by rfl, ?_⟩) hS9 ?_
          rotate_left 1
          · (intro W8 hSw; go_simp; (try with_reducible rfl))
          change wpAnyX _ _ _ _ _ _ _ _ (Act.put _ (some 55) _) _
          try simp only [Act.put, List.setIfInBounds_toArray, List.set_cons_zero, List.set_cons_succ]
          exact H3tt _ _ _ _ ⟨rfl, by kernel_rfl, _, _, rfl, hid hS9, hid (HC.out.mono hv), hid (B1.out.mono hv), h1, hid (B2.out.mono hv), h2, h12⟩
        refine mrg (fun n li ac wv => n = 7 ∧ li = #[true, true, true, true, true, true, true, true, true, true, true, true, true, true, true, true, true, true, true, true, false, false, false, false, true, false, false, false] ∧ ∃ b1 : Nat, ac = { tmps := #[mv 3 3 (some ⟨g0, 0, none⟩) 9 cp, .pointer (some ⟨w.heap.size, 0, none⟩), .pointer (some ⟨w.heap.size + 1, 0, none⟩), .bool false, .pointer (some ⟨w.heap.size + 1 + 1, 0, none⟩), .pointer (some ⟨w.heap.size + 1 + 1 + 1, 0, none⟩), .slice (some ⟨g0, 15, none⟩) 3 3, .slice (some ⟨g0, 30, none⟩) 3 3, .int .i64 (j : Int), .pointer (some ⟨wr.heap.size, 0, none⟩), .int .i64 (k : Int), .int .i64 (l : Int), .pointer (some ⟨b1, 0, none⟩), u13, u14, .agg #[.int .i64 3, .int .i64 3, .slice (some ⟨g0, 0, none⟩) 9 cp], .slice (some ⟨g0, 15, none⟩) 3 3, .agg #[.int .i64 3, .int .i64 3, .slice (some ⟨g0, 0, none⟩) 9 cp], .slice (some ⟨g0, 30, none⟩) 3 3, .agg #[.int .i64 3, .int .i64 3, .slice (some ⟨g0, 0, none⟩) 9 cp], .slice (some ⟨g0, 0, none⟩) 3 3, .int .i64 3, .int .i64 (j : Int), .bool true, .int .i64 (j : Int), .pointer (some ⟨g0, j * 5, none⟩), .agg #[.int .i64 xj.a, .int .i64 xj.b, .int .i64 xj.c, .int .i64 xj.d, .int .i64 xj.e], .int .i64 (j : Int), .int .i64 ((j : Int) + 1), .int .i64 (k : Int), .int .i64 (j : Int), .int .i64 ((j : Int) + 2), .int .i64 (l : Int), .slice (some ⟨g0, 15, none⟩) 3 3, .int .i64 (k : Int), .pointer (some ⟨g0, 15 + k * 5, none⟩), .agg #[.int .i64 sk.a, .int .i64 sk.b, .int .i64 sk.c, .int .i64 sk.d, .int .i64 sk.e], .slice (some ⟨g0, 30, none⟩) 3 3, .int .i64 (l : Int), .pointer (some ⟨g0, 30 + l * 5, none⟩), .agg #[.int .i64 tl.a, .int .i64 tl.b, .int .i64 tl.c, .int .i64 tl.d, .int .i64 tl.e], .tuple #[m1.1.v, .bool (!m1.2)], .agg #[.int .i64 m1.1.a, .int .i64 m1.1.b, .int .i64 m1.1.c, .int .i64 m1.1.d, .int .i64 m1.1.e], .bool (!m1.2), .agg #[.int .i64 m1.1.a, .int .i64 m1.1.b, .int .i64 m1.1.c, .int .i64 m1.1.d, .int .i64 m1.1.e], .slice (some ⟨g0, 15, none⟩) 3 3, .int .i64 (l : Int), .pointer (some ⟨g0, 15 + l * 5, none⟩), .agg #[.int .i64 sl.a, .int .i64 sl.b, .int .i64 sl.c, .int .i64 sl.d, .int .i64 sl.e], .slice (some ⟨g0, 30, none⟩) 3 3, .int .i64 (k : Int), .pointer (some ⟨g0, 30 + k * 5, none⟩), .agg #[.int .i64 tk.a, .int .i64 tk.b, .int .i64 tk.c, .int .i64 tk.d, .int .i64 tk.e], u53, u54, u55, u56, u57, u58, u59, u60, u61, u62, u63, u64, u65, u66, u67, u68, u69, u70, u71, u72, u73, u74, undef, undef, undef, undef], defers := [] } ∧ Hid (S8 w w5 wr g0 xs t xj wv) ∧ Hid (Bx wv (w.heap.size + 1 + 1) 164 #[.bool (z || !(!m1.2))]) ∧ Hid (Bx wv b1 99 #[.int .i64 0, .int .i64 0, .int .i64 0, .int .i64 0, .int .i64 0]) ∧ w5.heap.size ≤ b1) ?_ (fun H2tf => ?_)
        · rintro n li ac wv ⟨rfl, rfl, b1, rfl, HS, HC, B1, h1⟩
          have hBz := hB.size
          have hlc := HC.out.lt
          have hls := HS.out.2.2.2.2.1
          have hlx := HS.out.2.2.2.1.lt
          have hl1 := B1.out.lt
          refine wpAnyX_two (i := 20) (j := 25) (oi := _) (oj := _) rfl rfl (by kernel_rfl) (fun K hK => ?_) (fun K hK => ?_)
          · go_simp
            refine (HQm2.out _).mono ?_
            rintro ee v ⟨rfl, hv⟩
            refine hK.out _ _ (fun _ => HS.out.mono hv) (fun hS9 => ?_)
            clear hK K
            have hS9 := hS9 (by decide)
            try simp only [Act.put, List.setIfInBounds_toArray, List.set_cons_zero, List.set_cons_succ]
            refine wpAnyX_take (i := 21) (oi := _) (v := ?_) rfl (by kernel_rfl) (by kernel_rfl) (by kernel_rfl) (by kernel_rfl) (fun _ _ _ h => h) (Or.inl ⟨by rfl, ?_⟩) hS9 ?_
            rotate_left 1
            · (intro W8 hSw; go_simp; (try with_reducible rfl))
            change wpAnyX _ _ _ _ _ _ _ _ (Act.put _ (some 54) _) _
            try simp only [Act.put, List.setIfInBounds_toArray, List.set_cons_zero, List.set_cons_succ]
            refine wpAnyX_take (i := 22) (oi := _) (v := ?_) rfl (by kernel_rfl) (by kernel_rfl) (by kernel_rfl) (by kernel_rfl) (fun _ _ _ h => h) (Or.inl ⟨by rfl, ?_⟩) hS9 ?_
            rotate_left 1
            · (intro W8 hSw; go_simp; (try with_reducible rfl))
            change wpAnyX _ _ _ _ _ _ _ _ (Act.put _ (some 55) _) _
            try simp only [Act.put, List.setIfInBounds_toArray, List.set_cons_zero, List.set_cons_succ]
            exact H3tf _ _ _ _ ⟨rfl, by kernel_rfl, _, rfl, hid hS9, hid (HC.out.mono hv), hid (B1.out.mono hv), h1⟩
          · go_simp
            refine hK.out _ _ (fun _ => HS.out.alloc _) (fun hS9 => ?_)
            clear hK K
            have hS9 := hS9 (by decide)
            try simp only [Act.put, List.setIfInBounds_toArray, List.set_cons_zero, List.set_cons_succ]
            exact H2tt _ _ _ _ ⟨rfl, by kernel_rfl, _, _, rfl, hid hS9, hid (HC.out.alloc _), hid (B1.out.alloc _), h1, hid (Bx.new rfl), HS.out.2.2.2.2.1, (fun e => absurd B1.out.lt (by omega))⟩
        refine mrg (fun n li ac wv => n = 7 ∧ li = #[true, true, true, true, true, true, true, true, true, true, true, true, true, true, true, true, true, true, true, true, false, false, false, false, false, true, false, false] ∧ ∃ b2 : Nat, ac = { tmps := #[mv 3 3 (some ⟨g0, 0, none⟩) 9 cp, .pointer (some ⟨w.heap.size, 0, none⟩), .pointer (some ⟨w.heap.size + 1, 0, none⟩), .bool false, .pointer (some ⟨w.heap.size + 1 + 1, 0, none⟩), .pointer (some ⟨w.heap.size + 1 + 1 + 1, 0, none⟩), .slice (some ⟨g0, 15, none⟩) 3 3, .slice (some ⟨g0, 30, none⟩) 3 3, .int .i64 (j : Int), .pointer (some ⟨wr.heap.size, 0, none⟩), .int .i64 (k : Int), .int .i64 (l : Int), u12, .pointer (some ⟨b2, 0, none⟩), u14, .agg #[.int .i64 3, .int .i64 3, .slice (some ⟨g0, 0, none⟩) 9 cp], .slice (some ⟨g0, 15, none⟩) 3 3, .agg #[.int .i64 3, .int .i64 3, .slice (some ⟨g0, 0, none⟩) 9 cp], .slice (some ⟨g0, 30, none⟩) 3 3, .agg #[.int .i64 3, .int .i64 3, .slice (some ⟨g0, 0, none⟩) 9 cp], .slice (some ⟨g0, 0, none⟩) 3 3, .int .i64 3, .int .i64 (j : Int), .bool true, .int .i64 (j : Int), .pointer (some ⟨g0, j * 5, none⟩), .agg #[.int .i64 xj.a, .int .i64 xj.b, .int .i64 xj.c, .int .i64 xj.d, .int .i64 xj.e], .int .i64 (j : Int), .int .i64 ((j : Int) + 1), .int .i64 (k : Int), .int .i64 (j : Int), .int .i64 ((j : Int) + 2), .int .i64 (l : Int), .slice (some ⟨g0, 15, none⟩) 3 3, .int .i64 (k : Int), .pointer (some ⟨g0, 15 + k * 5, none⟩), .agg #[.int .i64 sk.a, .int .i64 sk.b, .int .i64 sk.c, .int .i64 sk.d, .int .i64 sk.e], .slice (some ⟨g0, 30, none⟩) 3 3, .int .i64 (l : Int), .pointer (some ⟨g0, 30 + l * 5, none⟩), .agg #[.int .i64 tl.a, .int .i64 tl.b, .int .i64 tl.c, .int .i64 tl.d, .int .i64 tl.e], .tuple #[m1.1.v, .bool (!m1.2)], .agg #[.int .i64 m1.1.a, .int .i64 m1.1.b, .int .i64 m1.1.c, .int .i64 m1.1.d, .int .i64 m1.1.e], .bool (!m1.2), .agg #[.int .i64 m1.1.a, .int .i64 m1.1.b, .int .i64 m1.1.c, .int .i64 m1.1.d, .int .i64 m1.1.e], .slice (some ⟨g0, 15, none⟩) 3 3, .int .i64 (l : Int), .pointer (some ⟨g0, 15 + l * 5, none⟩), .agg #[.int .i64 sl.a, .int .i64 sl.b, .int .i64 sl.c, .int .i64 sl.d, .int .i64 sl.e], .slice (some ⟨g0, 30, none⟩) 3 3, .int .i64 (k : Int), .pointer (some ⟨g0, 30 + k * 5, none⟩), .agg #[.int .i64 tk.a, .int .i64 tk.b, .int .i64 tk.c, .int .i64 tk.d, .int .i64 tk.e], u53, u54, u55, u56, u57, u58, u59, u60, u61, u62, u63, u64, u65, u66, u67, u68, u69, u70, u71, u72, u73, u74, undef, undef, undef, undef], defers := [] } ∧ Hid (S8 w w5 wr g0 xs t xj wv) ∧ Hid (Bx wv (w.heap.size + 1 + 1) 164 #[.bool (z || !(!m1.2))]) ∧ Hid (Bx wv b2 99 #[.int .i64 0, .int .i64 0, .int .i64 0, .int .i64 0, .int .i64 0]) ∧ w5.heap.size ≤ b2) ?_ (fun H2ft => ?_)
        · rintro n li ac wv ⟨rfl, rfl, b2, rfl, HS, HC, B2, h2⟩
          have hBz := hB.size
          have hlc := HC.out.lt
          have hls := HS.out.2.2.2.2.1
          have hlx := HS.out.2.2.2.1.lt
          have hl2 := B2.out.lt
          refine wpAnyX_two (i := 20) (j := 24) (oi := _) (oj := _) rfl rfl (by kernel_rfl) (fun K hK => ?_) (fun K hK => ?_)
          · go_simp
            refine (HQm2.out _).mono ?_
            rintro ee v ⟨rfl, hv⟩
            refine hK.out _ _ (fun _ => HS.out.mono hv) (fun hS9 => ?_)
            clear hK K
            have hS9 := hS9 (by decide)
            try simp only [Act.put, List.setIfInBounds_toArray, List.set_cons_zero, List.set_cons_succ]
            refine wpAnyX_take (i := 21) (oi := _) (v := ?_) rfl (by kernel_rfl) (by kernel_rfl) (by kernel_rfl) (by kernel_rfl) (fun _ _ _ h => h) (Or.inl ⟨by rfl, ?_⟩) hS9 ?_
            rotate_left 1
            · (intro W8 hSw; go_simp; (try with_reducible rfl))
            change wpAnyX _ _ _ _ _ _ _ _ (Act.put _ (some 54) _) _
            try simp only [Act.put, List.setIfInBounds_toArray, List.set_cons_zero, List.set_cons_succ]
            refine wpAnyX_take (i := 22) (oi := _) (v := ?_) rfl (by kernel_rfl) (by kernel_rfl) (by kernel_rfl) (by kernel_rfl) (fun _ _ _ h => h) (Or.inl ⟨by rfl, ?_⟩) hS9 ?_
            rotate_left 1
            · (intro W8 hSw; go_simp; (try with_reducible rfl))
            change wpAnyX _ _ _ _ _ _ _ _ (Act.put _ (some 55) _) _
            try simp only [Act.put, List.setIfInBounds_toArray, List.set_cons_zero, List.set_cons_succ]
            exact H3ft _ _ _ _ ⟨rfl, by kernel_rfl, _, rfl, hid hS9, hid (HC.out.mono hv), hid (B2.out.mono hv), h2⟩
          · go_simp
            refine hK.out _ _ (fun _ => HS.out.alloc _) (fun hS9 => ?_)
            clear hK K
            have hS9 := hS9 (by decide)
            try simp only [Act.put, List.setIfInBounds_toArray, List.set_cons_zero, List.set_cons_succ]
            exact H2tt _ _ _ _ ⟨rfl, by kernel_rfl, _, _, rfl, hid hS9, hid (HC.out.alloc _), hid (Bx.new rfl), HS.out.2.2.2.2.1, hid (B2.out.alloc _), h2, (fun e => absurd B2.out.lt (by omega))⟩
        refine mrg (fun n li ac wv => n = 8 ∧ li = #[true, true, true, true, true, true, true, true, true, true, true, true, true, true, true, true, true, true, true, true, false, false, false, false, false, false, false, false] ∧ ac = { tmps := #[mv 3 3 (some ⟨g0, 0, none⟩) 9 cp, .pointer (some ⟨w.heap.size, 0, none⟩), .pointer (some ⟨w.heap.size + 1, 0, none⟩), .bool false, .pointer (some ⟨w.heap.size + 1 + 1, 0, none⟩), .pointer (some ⟨w.heap.size + 1 + 1 + 1, 0, none⟩), .slice (some ⟨g0, 15, none⟩) 3 3, .slice (some ⟨g0, 30, none⟩) 3 3, .int .i64 (j : Int), .pointer (some ⟨wr.heap.size, 0, none⟩), .int .i64 (k : Int), .int .i64 (l : Int), u12, u13, u14, .agg #[.int .i64 3, .int .i64 3, .slice (some ⟨g0, 0, none⟩) 9 cp], .slice (some ⟨g0, 15, none⟩) 3 3, .agg #[.int .i64 3, .int .i64 3, .slice (some ⟨g0, 0, none⟩) 9 cp], .slice (some ⟨g0, 30, none⟩) 3 3, .agg #[.int .i64 3, .int .i64 3, .slice (some ⟨g0, 0, none⟩) 9 cp], .slice (some ⟨g0, 0, none⟩) 3 3, .int .i64 3, .int .i64 (j : Int), .bool true, .int .i64 (j : Int), .pointer (some ⟨g0, j * 5, none⟩), .agg #[.int .i64 xj.a, .int .i64 xj.b, .int .i64 xj.c, .int .i64 xj.d, .int .i64 xj.e], .int .i64 (j : Int), .int .i64 ((j : Int) + 1), .int .i64 (k : Int), .int .i64 (j : Int), .int .i64 ((j : Int) + 2), .int .i64 (l : Int), .slice (some ⟨g0, 15, none⟩) 3 3, .int .i64 (k : Int), .pointer (some ⟨g0, 15 + k * 5, none⟩), .agg #[.int .i64 sk.a, .int .i64 sk.b, .int .i64 sk.c, .int .i64 sk.d, .int .i64 sk.e], .slice (some ⟨g0, 30, none⟩) 3 3, .int .i64 (l : Int), .pointer (some ⟨g0, 30 + l * 5, none⟩), .agg #[.int .i64 tl.a, .int .i64 tl.b, .int .i64 tl.c, .int .i64 tl.d, .int .i64 tl.e], .tuple #[m1.1.v, .bool (!m1.2)], .agg #[.int .i64 m1.1.a, .int .i64 m1.1.b, .int .i64 m1.1.c, .int .i64 m1.1.d, .int .i64 m1.1.e], .bool (!m1.2), .agg #[.int .i64 m1.1.a, .int .i64 m1.1.b, .int .i64 m1.1.c, .int .i64 m1.1.d, .int .i64 m1.1.e], .slice (some ⟨g0, 15, none⟩) 3 3, .int .i64 (l : Int), .pointer (some ⟨g0, 15 + l * 5, none⟩), .agg #[.int .i64 sl.a, .int .i64 sl.b, .int .i64 sl.c, .int .i64 sl.d, .int .i64 sl.e], .slice (some ⟨g0, 30, none⟩) 3 3, .int .i64 (k : Int), .pointer (some ⟨g0, 30 + k * 5, none⟩), .agg #[.int .i64 tk.a, .int .i64 tk.b, .int .i64 tk.c, .int .i64 tk.d, .int .i64 tk.e], u53, u54, u55, u56, u57, u58, u59, u60, u61, u62, u63, u64, u65, u66, u67, u68, u69, u70, u71, u72, u73, u74, undef, undef, undef, undef], defers := [] } ∧ Hid (S8 w w5 wr g0 xs t xj wv) ∧ Hid (Bx wv (w.heap.size + 1 + 1) 164 #[.bool (z || !(!m1.2))])) ?_ (fun H2ff => ?_)
        · rintro n li ac wv ⟨rfl, rfl, rfl, HS, HC⟩
          have hBz := hB.size
          have hlc := HC.out.lt
          have hls := HS.out.2.2.2.2.1
          have hlx := HS.out.2.2.2.1.lt
          refine wpAnyX_three (i := 20) (j := 24) (k := 25) (oi := _) (oj := _) (ok := _) rfl rfl rfl (by kernel_rfl) (fun K hK => ?_) (fun K hK => ?_) (fun K hK => ?_)
          · go_simp
            refine (HQm2.out _).mono ?_
            rintro ee v ⟨rfl, hv⟩
            refine hK.out _ _ (fun _ => HS.out.mono hv) (fun hS9 => ?_)
            clear hK K
            have hS9 := hS9 (by decide)
            try simp only [Act.put, List.setIfInBounds_toArray, List.set_cons_zero, List.set_cons_succ]
            refine wpAnyX_take (i := 21) (oi := _) (v := ?_) rfl (by kernel_rfl) (by kernel_rfl) (by kernel_rfl) (by kernel_rfl) (fun _ _ _ h => h) (Or.inl ⟨by rfl, ?_⟩) hS9 ?_
            rotate_left 1
            · (intro W8 hSw; go_simp; (try with_reducible rfl))
            change wpAnyX _ _ _ _ _ _ _ _ (Act.put _ (some 54) _) _
            try simp only [Act.put, List.setIfInBounds_toArray, List.set_cons_zero, List.set_cons_succ]
            refine wpAnyX_take (i := 22) (oi := _) (v := ?_) rfl (by kernel_rfl) (by kernel_rfl) (by kernel_rfl) (by kernel_rfl) (fun _ _ _ h => h) (Or.inl ⟨by rfl, ?_⟩) hS9 ?_
            rotate_left 1
            · (intro W8 hSw; go_simp; (try with_reducible rfl))
            change wpAnyX _ _ _ _ _ _ _ _ (Act.put _ (some 55) _) _
            try simp only [Act.put, List.setIfInBounds_toArray, List.set_cons_zero, List.set_cons_succ]
            exact H3ff _ _ _ _ ⟨rfl, by kernel_rfl, rfl, hid hS9, hid (HC.out.mono hv)⟩
          · go_simp
            refine hK.out _ _ (fun _ => HS.out.alloc _) (fun hS9 => ?_)
            clear hK K
            have hS9 := hS9 (by decide)
            try simp only [Act.put, List.setIfInBounds_toArray, List.set_cons_zero, List.set_cons_succ]
            exact H2tf _ _ _ _ ⟨rfl, by kernel_rfl, _, rfl, hid hS9, hid (HC.out.alloc _), hid (Bx.new rfl), HS.out.2.2.2.2.1⟩
          · go_simp
            refine hK.out _ _ (fun _ => HS.out.alloc _) (fun hS9 => ?_)
            clear hK K
            have hS9 := hS9 (by decide)
            try simp only [Act.put, List.setIfInBounds_toArray, List.set_cons_zero, List.set_cons_succ]
            exact H2ft _ _ _ _ ⟨rfl, by kernel_rfl, _, rfl, hid hS9, hid (HC.out.alloc _), hid (Bx.new rfl), HS.out.2.2.2.2.1⟩
        refine mrg (fun n li ac wv => n = 7 ∧ li = #[true, true, true, true, true, true, true, true, true, true, true, false, true, true, true, true, true, true, true, true, false, false, false, false, true, true, false, false] ∧ ∃ b1 b2 : Nat, ac = { tmps := #[mv 3 3 (some ⟨g0, 0, none⟩) 9 cp, .pointer (some ⟨w.heap.size, 0, none⟩), .pointer (some ⟨w.heap.size + 1, 0, none⟩), .bool false, .pointer (some ⟨w.heap.size + 1 + 1, 0, none⟩), .pointer (some ⟨w.heap.size + 1 + 1 + 1, 0, none⟩), .slice (some ⟨g0, 15, none⟩) 3 3, .slice (some ⟨g0, 30, none⟩) 3 3, .int .i64 (j : Int), .pointer (some ⟨wr.heap.size, 0, none⟩), .int .i64 (k : Int), .int .i64 (l : Int), .pointer (some ⟨b1, 0, none⟩), .pointer (some ⟨b2, 0, none⟩), u14, .agg #[.int .i64 3, .int .i64 3, .slice (some ⟨g0, 0, none⟩) 9 cp], .slice (some ⟨g0, 15, none⟩) 3 3, .agg #[.int .i64 3, .int .i64 3, .slice (some ⟨g0, 0, none⟩) 9 cp], .slice (some ⟨g0, 30, none⟩) 3 3, .agg #[.int .i64 3, .int .i64 3, .slice (some ⟨g0, 0, none⟩) 9 cp], .slice (some ⟨g0, 0, none⟩) 3 3, .int .i64 3, .int .i64 (j : Int), .bool true, .int .i64 (j : Int), .pointer (some ⟨g0, j * 5, none⟩), .agg #[.int .i64 xj.a, .int .i64 xj.b, .int .i64 xj.c, .int .i64 xj.d, .int .i64 xj.e], .int .i64 (j : Int), .int .i64 ((j : Int) + 1), .int .i64 (k : Int), .int .i64 (j : Int), .int .i64 ((j : Int) + 2), .int .i64 (l : Int), .slice (some ⟨g0, 15, none⟩) 3 3, .int .i64 (k : Int), .pointer (some ⟨g0, 15 + k * 5, none⟩), .agg #[.int .i64 sk.a, .int .i64 sk.b, .int .i64 sk.c, .int .i64 sk.d, .int .i64 sk.e], .slice (some ⟨g0, 30, none⟩) 3 3, .int .i64 (l : Int), .pointer (some ⟨g0, 30 + l * 5, none⟩), .agg #[.int .i64 tl.a, .int .i64 tl.b, .int .i64 tl.c, .int .i64 tl.d, .int .i64 tl.e], .tuple #[m1.1.v, .bool (!m1.2)], .agg #[.int .i64 m1.1.a, .int .i64 m1.1.b, .int .i64 m1.1.c, .int .i64 m1.1.d, .int .i64 m1.1.e], .bool (!m1.2), u44, .slice (some ⟨g0, 15, none⟩) 3 3, .int .i64 (l : Int), .pointer (some ⟨g0, 15 + l * 5, none⟩), .agg #[.int .i64 sl.a, .int .i64 sl.b, .int .i64 sl.c, .int .i64 sl.d, .int .i64 sl.e], .slice (some ⟨g0, 30, none⟩) 3 3, .int .i64 (k : Int), .pointer (some ⟨g0, 30 + k * 5, none⟩), .agg #[.int .i64 tk.a, .int .i64 tk.b, .int .i64 tk.c, .int .i64 tk.d, .int .i64 tk.e], u53, u54, u55, u56, u57, u58, u59, u60, u61, u62, u63, u64, u65, u66, u67, u68, u69, u70, u71, u72, u73, u74, undef, undef, undef, undef], defers := [] } ∧ Hid (S8 w w5 wr g0 xs t xj wv) ∧ Hid (Bx wv (w.heap.size + 1 + 1) 164 #[.bool z]) ∧ Hid (Bx wv b1 99 #[.int .i64 0, .int .i64 0, .int .i64 0, .int .i64 0, .int .i64 0]) ∧ w5.heap.size ≤ b1 ∧ Hid (Bx wv b2 99 #[.int .i64 0, .int .i64 0, .int .i64 0, .int .i64 0, .int .i64 0]) ∧ w5.heap.size ≤ b2 ∧ b1 ≠ b2) ?_ (fun H1tt => ?_)
        · rintro n li ac wv ⟨rfl, rfl, b1, b2, rfl, HS, HC, B1, h1, B2, h2, h12⟩
          have hBz := hB.size
          have hlc := HC.out.lt
          have hls := HS.out.2.2.2.2.1
          have hlx := HS.out.2.2.2.1.lt
          have hl1 := B1.out.lt
          have hl2 := B2.out.lt
          refine wpAnyX_one (i := 11) (o := _) rfl (by kernel_rfl) (fun K hK => ?_)
          go_simp
          refine (kp_i (x := m1.1) (ok := !m1.2) (z := z) (g := w.heap.size + 1 + 1) HC.out).mono ?_
          rintro ee v ⟨rfl, hv⟩
          refine hK.out _ _ (fun _ => HS.out.badly hv (by omega) hgl (by omega) (by omega) (by omega)) (fun hS9 => ?_)
          clear hK K
          have hS9 := hS9 (by decide)
          try simp only [Act.put, List.setIfInBounds_toArray, List.set_cons_zero, List.set_cons_succ]
          exact H2tt _ _ _ _ ⟨rfl, by kernel_rfl, _, _, rfl, hid hS9, hid (Bx.bad HC.out hv), hid (B1.out.badly hv (by omega)), h1, hid (B2.out.badly hv (by omega)), h2, h12⟩
        refine mrg (fun n li ac wv => n = 8 ∧ li = #[true, true, true, true, true, true, true, true, true, true, true, false, true, true, true, true, true, true, true, true, false, false, false, false, true, false, false, false] ∧ ∃ b1 : Nat, ac = { tmps := #[mv 3 3 (some ⟨g0, 0, none⟩) 9 cp, .pointer (some ⟨w.heap.size, 0, none⟩), .pointer (some ⟨w.heap.size + 1, 0, none⟩), .bool false, .pointer (some ⟨w.heap.size + 1 + 1, 0, none⟩), .pointer (some ⟨w.heap.size + 1 + 1 + 1, 0, none⟩), .slice (some ⟨g0, 15, none⟩) 3 3, .slice (some ⟨g0, 30, none⟩) 3 3, .int .i64 (j : Int), .pointer (some ⟨wr.heap.size, 0, none⟩), .int .i64 (k : Int), .int .i64 (l : Int), .pointer (some ⟨b1, 0, none⟩), u13, u14, .agg #[.int .i64 3, .int .i64 3, .slice (some ⟨g0, 0, none⟩) 9 cp], .slice (some ⟨g0, 15, none⟩) 3 3, .agg #[.int .i64 3, .int .i64 3, .slice (some ⟨g0, 0, none⟩) 9 cp], .slice (some ⟨g0, 30, none⟩) 3 3, .agg #[.int .i64 3, .int .i64 3, .slice (some ⟨g0, 0, none⟩) 9 cp], .slice (some ⟨g0, 0, none⟩) 3 3, .int .i64 3, .int .i64 (j : Int), .bool true, .int .i64 (j : Int), .pointer (some ⟨g0, j * 5, none⟩), .agg #[.int .i64 xj.a, .int .i64 xj.b, .int .i64 xj.c, .int .i64 xj.d, .int .i64 xj.e], .int .i64 (j : Int), .int .i64 ((j : Int) + 1), .int .i64 (k : Int), .int .i64 (j : Int), .int .i64 ((j : Int) + 2), .int .i64 (l : Int), .slice (some ⟨g0, 15, none⟩) 3 3, .int .i64 (k : Int), .pointer (some ⟨g0, 15 + k * 5, none⟩), .agg #[.int .i64 sk.a, .int .i64 sk.b, .int .i64 sk.c, .int .i64 sk.d, .int .i64 sk.e], .slice (some ⟨g0, 30, none⟩) 3 3, .int .i64 (l : Int), .pointer (some ⟨g0, 30 + l * 5, none⟩), .agg #[.int .i64 tl.a, .int .i64 tl.b, .int .i64 tl.c, .int .i64 tl.d, .int .i64 tl.e], .tuple #[m1.1.v, .bool (!m1.2)], .agg #[.int .i64 m1.1.a, .int .i64 m1.1.b, .int .i64 m1.1.c, .int .i64 m1.1.d, .int .i64 m1.1.e], .bool (!m1.2), u44, .slice (some ⟨g0, 15, none⟩) 3 3, .int .i64 (l : Int), .pointer (some ⟨g0, 15 + l * 5, none⟩), .agg #[.int .i64 sl.a, .int .i64 sl.b, .int .i64 sl.c, .int .i64 sl.d, .int .i64 sl.e], .slice (some ⟨g0, 30, none⟩) 3 3, .int .i64 (k : Int), .pointer (some ⟨g0, 30 + k * 5, none⟩), .agg #[.int .i64 tk.a, .int .i64 tk.b, .int .i64 tk.c, .int .i64 tk.d, .int .i64 tk.e], u53, u54, u55, u56, u57, u58, u59, u60, u61, u62, u63, u64, u65, u66, u67, u68, u69, u70, u71, u72, u73, u74, undef, undef, undef, undef], defers := [] } ∧ Hid (S8 w w5 wr g0 xs t xj wv) ∧ Hid (Bx wv (w.heap.size + 1 + 1) 164 #[.bool z]) ∧ Hid (Bx wv b1 99 #[.int .i64 0, .int .i64 0, .int .i64 0, .int .i64 0, .int .i64 0]) ∧ w5.heap.size ≤ b1) ?_ (fun H1tf => ?_)
        · rintro n li ac wv ⟨rfl, rfl, b1, rfl, HS, HC, B1, h1⟩
          have hBz := hB.size
          have hlc := HC.out.lt
          have hls := HS.out.2.2.2.2.1
          have hlx := HS.out.2.2.2.1.lt
          have hl1 := B1.out.lt
          refine wpAnyX_two (i := 11) (j := 25) (oi := _) (oj := _) rfl rfl (by kernel_rfl) (fun K hK => ?_) (fun K hK => ?_)
          · go_simp
            refine (kp_i (x := m1.1) (ok := !m1.2) (z := z) (g := w.heap.size + 1 + 1) HC.out).mono ?_
            rintro ee v ⟨rfl, hv⟩
            refine hK.out _ _ (fun _ => HS.out.badly hv (by omega) hgl (by omega) (by omega) (by omega)) (fun hS9 => ?_)
            clear hK K
            have hS9 := hS9 (by decide)
            try simp only [Act.put, List.setIfInBounds_toArray, List.set_cons_zero, List.set_cons_succ]
            exact H2tf _ _ _ _ ⟨rfl, by kernel_rfl, _, rfl, hid hS9, hid (Bx.bad HC.out hv), hid (B1.out.badly hv (by omega)), h1⟩
          · go_simp
            refine hK.out _ _ (fun _ => HS.out.alloc _) (fun hS9 => ?_)
            clear hK K
            have hS9 := hS9 (by decide)
            try simp only [Act.put, List.setIfInBounds_toArray, List.set_cons_zero, List.set_cons_succ]
            exact H1tt _ _ _ _ ⟨rfl, by kernel_rfl, _, _, rfl, hid hS9, hid (HC.out.alloc _), hid (B1.out.alloc _), h1, hid (Bx.new rfl), HS.out.2.2.2.2.1, (fun e => absurd B1.out.lt (by omega))⟩
        refine mrg (fun n li ac wv => n = 8 ∧ li = #[true, true, true, true, true, true, true, true, true, true, true, false, true, true, true, true, true, true, true, true, false, false, false, false, false, true, false, false] ∧ ∃ b2 : Nat, ac = { tmps := #[mv 3 3 (some ⟨g0, 0, none⟩) 9 cp, .pointer (some ⟨w.heap.size, 0, none⟩), .pointer (some ⟨w.heap.size + 1, 0, none⟩), .bool false, .pointer (some ⟨w.heap.size + 1 + 1, 0, none⟩), .pointer (some ⟨w.heap.size + 1 + 1 + 1, 0, none⟩), .slice (some ⟨g0, 15, none⟩) 3 3, .slice (some ⟨g0, 30, none⟩) 3 3, .int .i64 (j : Int), .pointer (some ⟨wr.heap.size, 0, none⟩), .int .i64 (k : Int), .int .i64 (l : Int), u12, .pointer (some ⟨b2, 0, none⟩), u14, .agg #[.int .i64 3, .int .i64 3, .slice (some ⟨g0, 0, none⟩) 9 cp], .slice (some ⟨g0, 15, none⟩) 3 3, .agg #[.int .i64 3, .int .i64 3, .slice (some ⟨g0, 0, none⟩) 9 cp], .slice (some ⟨g0, 30, none⟩) 3 3, .agg #[.int .i64 3, .int .i64 3, .slice (some ⟨g0, 0, none⟩) 9 cp], .slice (some ⟨g0, 0, none⟩) 3 3, .int .i64 3, .int .i64 (j : Int), .bool true, .int .i64 (j : Int), .pointer (some ⟨g0, j * 5, none⟩), .agg #[.int .i64 xj.a, .int .i64 xj.b, .int .i64 xj.c, .int .i64 xj.d, .int .i64 xj.e], .int .i64 (j : Int), .int .i64 ((j : Int) + 1), .int .i64 (k : Int), .int .i64 (j : Int), .int .i64 ((j : Int) + 2), .int .i64 (l : Int), .slice (some ⟨g0, 15, none⟩) 3 3, .int .i64 (k : Int), .pointer (some ⟨g0, 15 + k * 5, none⟩), .agg #[.int .i64 sk.a, .int .i64 sk.b, .int .i64 sk.c, .int .i64 sk.d, .int .i64 sk.e], .slice (some ⟨g0, 30, none⟩) 3 3, .int .i64 (l : Int), .pointer (some ⟨g0, 30 + l * 5, none⟩), .agg #[.int .i64 tl.a, .int .i64 tl.b, .int .i64 tl.c, .int .i64 tl.d, .int .i64 tl.e], .tuple #[m1.1.v, .bool (!m1.2)], .agg #[.int .i64 m1.1.a, .int .i64 m1.1.b, .int .i64 m1.1.c, .int .i64 m1.1.d, .int .i64 m1.1.e], .bool (!m1.2), u44, .slice (some ⟨g0, 15, none⟩) 3 3, .int .i64 (l : Int), .pointer (some ⟨g0, 15 + l * 5, none⟩), .agg #[.int .i64 sl.a, .int .i64 sl.b, .int .i64 sl.c, .int .i64 sl.d, .int .i64 sl.e], .slice (some ⟨g0, 30, none⟩) 3 3, .int .i64 (k : Int), .pointer (some ⟨g0, 30 + k * 5, none⟩), .agg #[.int .i64 tk.a, .int .i64 tk.b, .int .i64 tk.c, .int .i64 tk.d, .int .i64 tk.e], u53, u54, u55, u56, u57, u58, u59, u60, u61, u62, u63, u64, u65, u66, u67, u68, u69, u70, u71, u72, u73, u74, undef, undef, undef, undef], defers := [] } ∧ Hid (S8 w w5 wr g0 xs t xj wv) ∧ Hid (Bx wv (w.heap.size + 1 + 1) 164 #[.bool z]) ∧ Hid (Bx wv b2 99 #[.int .i64 0, .int .i64 0, .int .i64 0, .int .i64 0, .int .i64 0]) ∧ w5.heap.size ≤ b2) ?_ (fun H1ft => ?_)
        · rintro n li ac wv ⟨rfl, rfl, b2, rfl, HS, HC, B2, h2⟩
          have hBz := hB.size
          have hlc := HC.out.lt
          have hls := HS.out.2.2.2.2.1
          have hlx := HS.out.2.2.2.1.lt
          have hl2 := B2.out.lt
          refine wpAnyX_two (i := 11) (j := 24) (oi := _) (oj := _) rfl rfl (by kernel_rfl) (fun K hK => ?_) (fun K hK => ?_)
          · go_simp
            refine (kp_i (x := m1.1) (ok := !m1.2) (z := z) (g := w.heap.size + 1 + 1) HC.out).mono ?_
            rintro ee v ⟨rfl, hv⟩
            refine hK.out _ _ (fun _ => HS.out.badly hv (by omega) hgl (by omega) (by omega) (by omega)) (fun hS9 => ?_)
            clear hK K
            have hS9 := hS9 (by decide)
            try simp only [Act.put, List.setIfInBounds_toArray, List.set_cons_zero, List.set_cons_succ]
            exact H2ft _ _ _ _ ⟨rfl, by kernel_rfl, _, rfl, hid hS9, hid (Bx.bad HC.out hv), hid (B2.out.badly hv (by omega)), h2⟩
          · go_simp
            refine hK.out _ _ (fun _ => HS.out.alloc _) (fun hS9 => ?_)
            clear hK K
            have hS9 := hS9 (by decide)
            try simp only [Act.put, List.setIfInBounds_toArray, List.set_cons_zero, List.set_cons_succ]
            exact H1tt _ _ _ _ ⟨rfl, by kernel_rfl, _, _, rfl, hid hS9, hid (HC.out.alloc _), hid (Bx.new rfl), HS.out.2.2.2.2.1, hid (B2.out.alloc _), h2, (fun e => absurd B2.out.lt (by omega))⟩
        refine mrg (fun n li ac wv => n = 9 ∧ li = #[true, true, true, true, true, true, true, true, true, true, true, false, true, true, true, true, true, true, true, true, false, false, false, false, false, false, false, false] ∧ ac = { tmps := #[mv 3 3 (some ⟨g0, 0, none⟩) 9 cp, .pointer (some ⟨w.heap.size, 0, none⟩), .pointer (some ⟨w.heap.size + 1, 0, none⟩), .bool false, .pointer (some ⟨w.heap.size + 1 + 1, 0, none⟩), .pointer (some ⟨w.heap.size + 1 + 1 + 1, 0, none⟩), .slice (some ⟨g0, 15, none⟩) 3 3, .slice (some ⟨g0, 30, none⟩) 3 3, .int .i64 (j : Int), .pointer (some ⟨wr.heap.size, 0, none⟩), .int .i64 (k : Int), .int .i64 (l : Int), u12, u13, u14, .agg #[.int .i64 3, .int .i64 3, .slice (some ⟨g0, 0, none⟩) 9 cp], .slice (some ⟨g0, 15, none⟩) 3 3, .agg #[.int .i64 3, .int .i64 3, .slice (some ⟨g0, 0, none⟩) 9 cp], .slice (some ⟨g0, 30, none⟩) 3 3, .agg #[.int .i64 3, .int .i64 3, .slice (some ⟨g0, 0, none⟩) 9 cp], .slice (some ⟨g0, 0, none⟩) 3 3, .int .i64 3, .int .i64 (j : Int), .bool true, .int .i64 (j : Int), .pointer (some ⟨g0, j * 5, none⟩), .agg #[.int .i64 xj.a, .int .i64 xj.b, .int .i64 xj.c, .int .i64 xj.d, .int .i64 xj.e], .int .i64 (j : Int), .int .i64 ((j : Int) + 1), .int .i64 (k : Int), .int .i64 (j : Int), .int .i64 ((j : Int) + 2), .int .i64 (l : Int), .slice (some ⟨g0, 15, none⟩) 3 3, .int .i64 (k : Int), .pointer (some ⟨g0, 15 + k * 5, none⟩), .agg #[.int .i64 sk.a, .int .i64 sk.b, .int .i64 sk.c, .int .i64 sk.d, .int .i64 sk.e], .slice (some ⟨g0, 30, none⟩) 3 3, .int .i64 (l : Int), .pointer (some ⟨g0, 30 + l * 5, none⟩), .agg #[.int .i64 tl.a, .int .i64 tl.b, .int .i64 tl.c, .int .i64 tl.d, .int .i64 tl.e], .tuple #[m1.1.v, .bool (!m1.2)], .agg #[.int .i64 m1.1.a, .int .i64 m1.1.b, .int .i64 m1.1.c, .int .i64 m1.1.d, .int .i64 m1.1.e], .bool (!m1.2), u44, .slice (some ⟨g0, 15, none⟩) 3 3, .int .i64 (l : Int), .pointer (some ⟨g0, 15 + l * 5, none⟩), .agg #[.int .i64 sl.a, .int .i64 sl.b, .int .i64 sl.c, .int .i64 sl.d, .int .i64 sl.e], .slice (some ⟨g0, 30, none⟩) 3 3, .int .i64 (k : Int), .pointer (some ⟨g0, 30 + k * 5, none⟩), .agg #[.int .i64 tk.a, .int .i64 tk.b, .int .i64 tk.c, .int .i64 tk.d, .int .i64 tk.e], u53, u54, u55, u56, u57, u58, u59, u60, u61, u62, u63, u64, u65, u66, u67, u68, u69, u70, u71, u72, u73, u74, undef, undef, undef, undef], defers := [] } ∧ Hid (S8 w w5 wr g0 xs t xj wv) ∧ Hid (Bx wv (w.heap.size + 1 + 1) 164 #[.bool z])) ?_ (fun H1ff => ?_)
        · rintro n li ac wv ⟨rfl, rfl, rfl, HS, HC⟩
          have hBz := hB.size
          have hlc := HC.out.lt
          have hls := HS.out.2.2.2.2.1
          have hlx := HS.out.2.2.2.1.lt
          refine wpAnyX_three (i := 11) (j := 24) (k := 25) (oi := _) (oj := _) (ok := _) rfl rfl rfl (by kernel_rfl) (fun K hK => ?_) (fun K hK => ?_) (fun K hK => ?_)
          · go_simp
            refine (kp_i (x := m1.1) (ok := !m1.2) (z := z) (g := w.heap.size + 1 + 1) HC.out).mono ?_
            rintro ee v ⟨rfl, hv⟩
            refine hK.out _ _ (fun _ => HS.out.badly hv (by omega) hgl (by omega) (by omega) (by omega)) (fun hS9 => ?_)
            clear hK K
            have hS9 := hS9 (by decide)
            try simp only [Act.put, List.setIfInBounds_toArray, List.set_cons_zero, List.set_cons_succ]
            exact H2ff _ _ _ _ ⟨rfl, by kernel_rfl, rfl, hid hS9, hid (Bx.bad HC.out hv)⟩
          · go_simp
            refine hK.out _ _ (fun _ => HS.out.alloc _) (fun hS9 => ?_)
            clear hK K
            have hS9 := hS9 (by decide)
            try simp only [Act.put, List.setIfInBounds_toArray, List.set_cons_zero, List.set_cons_succ]
            exact H1tf _ _ _ _ ⟨rfl, by kernel_rfl, _, rfl, hid hS9, hid (HC.out.alloc _), hid (Bx.new rfl), HS.out.2.2.2.2.1⟩
          · go_simp
            refine hK.out _ _ (fun _ => HS.out.alloc _) (fun hS9 => ?_)
            clear hK K
            have hS9 := hS9 (by decide)
            try simp only [Act.put, List.setIfInBounds_toArray, List.set_cons_zero, List.set_cons_succ]
            exact H1ft _ _ _ _ ⟨rfl, by kernel_rfl, _, rfl, hid hS9, hid (HC.out.alloc _), hid (Bx.new rfl), HS.out.2.2.2.2.1⟩
        refine mrg (fun n li ac wv => n = 10 ∧ li = #[true, true, true, true, true, true, true, true, false, false, false, false, true, true, true, true, true, true, true, true, false, false, false, false, true, true, false, false] ∧ ∃ b1 b2 : Nat, ac = { tmps := #[mv 3 3 (some ⟨g0, 0, none⟩) 9 cp, .pointer (some ⟨w.heap.size, 0, none⟩), .pointer (some ⟨w.heap.size + 1, 0, none⟩), .bool false, .pointer (some ⟨w.heap.size + 1 + 1, 0, none⟩), .pointer (some ⟨w.heap.size + 1 + 1 + 1, 0, none⟩), .slice (some ⟨g0, 15, none⟩) 3 3, .slice (some ⟨g0, 30, none⟩) 3 3, .int .i64 (j : Int), .pointer (some ⟨wr.heap.size, 0, none⟩), .int .i64 (k : Int), .int .i64 (l : Int), .pointer (some ⟨b1, 0, none⟩), .pointer (some ⟨b2, 0, none⟩), u14, .agg #[.int .i64 3, .int .i64 3, .slice (some ⟨g0, 0, none⟩) 9 cp], .slice (some ⟨g0, 15, none⟩) 3 3, .agg #[.int .i64 3, .int .i64 3, .slice (some ⟨g0, 0, none⟩) 9 cp], .slice (some ⟨g0, 30, none⟩) 3 3, .agg #[.int .i64 3, .int .i64 3, .slice (some ⟨g0, 0, none⟩) 9 cp], .slice (some ⟨g0, 0, none⟩) 3 3, .int .i64 3, .int .i64 (j : Int), .bool true, .int .i64 (j : Int), .pointer (some ⟨g0, j * 5, none⟩), .agg #[.int .i64 xj.a, .int .i64 xj.b, .int .i64 xj.c, .int .i64 xj.d, .int .i64 xj.e], .int .i64 (j : Int), .int .i64 ((j : Int) + 1), .int .i64 (k : Int), .int .i64 (j : Int), .int .i64 ((j : Int) + 2), .int .i64 (l : Int), .slice (some ⟨g0, 15, none⟩) 3 3, .int .i64 (k : Int), .pointer (some ⟨g0, 15 + k * 5, none⟩), .agg #[.int .i64 sk.a, .int .i64 sk.b, .int .i64 sk.c, .int .i64 sk.d, .int .i64 sk.e], .slice (some ⟨g0, 30, none⟩) 3 3, .int .i64 (l : Int), .pointer (some ⟨g0, 30 + l * 5, none⟩), .agg #[.int .i64 tl.a, .int .i64 tl.b, .int .i64 tl.c, .int .i64 tl.d, .int .i64 tl.e], u41, u42, u43, u44, .slice (some ⟨g0, 15, none⟩) 3 3, .int .i64 (l : Int), .pointer (some ⟨g0, 15 + l * 5, none⟩), .agg #[.int .i64 sl.a, .int .i64 sl.b, .int .i64 sl.c, .int .i64 sl.d, .int .i64 sl.e], .slice (some ⟨g0, 30, none⟩) 3 3, .int .i64 (k : Int), .pointer (some ⟨g0, 30 + k * 5, none⟩), .agg #[.int .i64 tk.a, .int .i64 tk.b, .int .i64 tk.c, .int .i64 tk.d, .int .i64 tk.e], u53, u54, u55, u56, u57, u58, u59, u60, u61, u62, u63, u64, u65, u66, u67, u68, u69, u70, u71, u72, u73, u74, undef, undef, undef, undef], defers := [] } ∧ Hid (S8 w w5 wr g0 xs t xj wv) ∧ Hid (Bx wv (w.heap.size + 1 + 1) 164 #[.bool z]) ∧ Hid (Bx wv b1 99 #[.int .i64 0, .int .i64 0, .int .i64 0, .int .i64 0, .int .i64 0]) ∧ w5.heap.size ≤ b1 ∧ Hid (Bx wv b2 99 #[.int .i64 0, .int .i64 0, .int .i64 0, .int .i64 0, .int .i64 0]) ∧ w5.heap.size ≤ b2 ∧ b1 ≠ b2) ?_ (fun H0tt => ?_)
        · rintro n li ac wv ⟨rfl, rfl, b1, b2, rfl, HS, HC, B1, h1, B2, h2, h12⟩
          have hBz := hB.size
          have hlc := HC.out.lt
          have hls := HS.out.2.2.2.2.1
          have hlx := HS.out.2.2.2.1.lt
          have hl1 := B1.out.lt
          have hl2 := B2.out.lt
          refine wpAnyX_one (i := 8) (o := _) rfl (by kernel_rfl) (fun K hK => ?_)
          go_simp
          refine (HQm1.out _).mono ?_
          rintro ee v ⟨rfl, hv⟩
          refine hK.out _ _ (fun _ => HS.out.mono hv) (fun hS9 => ?_)
          clear hK K
          have hS9 := hS9 (by decide)
          try simp only [Act.put, List.setIfInBounds_toArray, List.set_cons_zero, List.set_cons_succ]
          refine wpAnyX_take (i := 9) (oi := _) (v := ?_) rfl (by kernel_rfl) (by kernel_rfl) (by kernel_rfl) (by kernel_rfl) (fun _ _ _ h => h) (Or.inl ⟨by rfl, ?_⟩) hS9 ?_
          rotate_left 1
          · (intro W8 hSw; go_simp; (try with_reducible rfl))
          change wpAnyX _ _ _ _ _ _ _ _ (Act.put _ (some 42) _) _
          try simp only [Act.put, List.setIfInBounds_toArray, List.set_cons_zero, List.set_cons_succ]
          refine wpAnyX_take (i := 10) (oi := _) (v := ?_) rfl (by kernel_rfl) (by kernel_rfl) (by kernel_rfl) (by kernel_rfl) (fun _ _ _ h => h) (Or.inl ⟨by rfl, ?_⟩) hS9 ?_
          rotate_left 1
          · (intro W8 hSw; go_simp; (try with_reducible rfl))
          change wpAnyX _ _ _ _ _ _ _ _ (Act.put _ (some 43) _) _
          try simp only [Act.put, List.setIfInBounds_toArray, List.set_cons_zero, List.set_cons_succ]
          exact H1tt _ _ _ _ ⟨rfl, by kernel_rfl, _, _, rfl, hid hS9, hid (HC.out.mono hv), hid (B1.out.mono hv), h1, hid (B2.out.mono hv), h2, h12⟩
        refine mrg (fun n li ac wv => n = 11 ∧ li = #[true, true, true, true, true, true, true, true, false, false, false, false, true, true, true, true, true, true, true, true, false, false, false, false, true, false, false, false] ∧ ∃ b1 : Nat, ac = { tmps := #[mv 3 3 (some ⟨g0, 0, none⟩) 9 cp, .pointer (some ⟨w.heap.size, 0, none⟩), .pointer (some ⟨w.heap.size + 1, 0, none⟩), .bool false, .pointer (some ⟨w.heap.size + 1 + 1, 0, none⟩), .pointer (some ⟨w.heap.size + 1 + 1 + 1, 0, none⟩), .slice (some ⟨g0, 15, none⟩) 3 3, .slice (some ⟨g0, 30, none⟩) 3 3, .int .i64 (j : Int), .pointer (some ⟨wr.heap.size, 0, none⟩), .int .i64 (k : Int), .int .i64 (l : Int), .pointer (some ⟨b1, 0, none⟩), u13, u14, .agg #[.int .i64 3, .int .i64 3, .slice (some ⟨g0, 0, none⟩) 9 cp], .slice (some ⟨g0, 15, none⟩) 3 3, .agg #[.int .i64 3, .int .i64 3, .slice (some ⟨g0, 0, none⟩) 9 cp], .slice (some ⟨g0, 30, none⟩) 3 3, .agg #[.int .i64 3, .int .i64 3, .slice (some ⟨g0, 0, none⟩) 9 cp], .slice (some ⟨g0, 0, none⟩) 3 3, .int .i64 3, .int .i64 (j : Int), .bool true, .int .i64 (j : Int), .pointer (some ⟨g0, j * 5, none⟩), .agg #[.int .i64 xj.a, .int .i64 xj.b, .int .i64 xj.c, .int .i64 xj.d, .int .i64 xj.e], .int .i64 (j : Int), .int .i64 ((j : Int) + 1), .int .i64 (k : Int), .int .i64 (j : Int), .int .i64 ((j : Int) + 2), .int .i64 (l : Int), .slice (some ⟨g0, 15, none⟩) 3 3, .int .i64 (k : Int), .pointer (some ⟨g0, 15 + k * 5, none⟩), .agg #[.int .i64 sk.a, .int .i64 sk.b, .int .i64 sk.c, .int .i64 sk.d, .int .i64 sk.e], .slice (some ⟨g0, 30, none⟩) 3 3, .int .i64 (l : Int), .pointer (some ⟨g0, 30 + l * 5, none⟩), .agg #[.int .i64 tl.a, .int .i64 tl.b, .int .i64 tl.c, .int .i64 tl.d, .int .i64 tl.e], u41, u42, u43, u44, .slice (some ⟨g0, 15, none⟩) 3 3, .int .i64 (l : Int), .pointer (some ⟨g0, 15 + l * 5, none⟩), .agg #[.int .i64 sl.a, .int .i64 sl.b, .int .i64 sl.c, .int .i64 sl.d, .int .i64 sl.e], .slice (some ⟨g0, 30, none⟩) 3 3, .int .i64 (k : Int), .pointer (some ⟨g0, 30 + k * 5, none⟩), .agg #[.int .i64 tk.a, .int .i64 tk.b, .int .i64 tk.c, .int .i64 tk.d, .int .i64 tk.e], u53, u54, u55, u56, u57, u58, u59, u60, u61, u62, u63, u64, u65, u66, u67, u68, u69, u70, u71, u72, u73, u74, undef, undef, undef, undef], defers := [] } ∧ Hid (S8 w w5 wr g0 xs t xj wv) ∧ Hid (Bx wv (w.heap.size + 1 + 1) 164 #[.bool z]) ∧ Hid (Bx wv b1 99 #[.int .i64 0, .int .i64 0, .int .i64 0, .int .i64 0, .int .i64 0]) ∧ w5.heap.size ≤ b1) ?_ (fun H0tf => ?_)
        · rintro n li ac wv ⟨rfl, rfl, b1, rfl, HS, HC, B1, h1⟩
          have hBz := hB.size
          have hlc := HC.out.lt
          have hls := HS.out.2.2.2.2.1
          have hlx := HS.out.2.2.2.1.lt
          have hl1 := B1.out.lt
          refine wpAnyX_two (i := 8) (j := 25) (oi := _) (oj := _) rfl rfl (by kernel_rfl) (fun K hK => ?_) (fun K hK => ?_)
          · go_simp
            refine (HQm1.out _).mono ?_
            rintro ee v ⟨rfl, hv⟩
            refine hK.out _ _ (fun _ => HS.out.mono hv) (fun hS9 => ?_)
            clear hK K
            have hS9 := hS9 (by decide)
            try simp only [Act.put, List.setIfInBounds_toArray, List.set_cons_zero, List.set_cons_succ]
            refine wpAnyX_take (i := 9) (oi := _) (v := ?_) rfl (by kernel_rfl) (by kernel_rfl) (by kernel_rfl) (by kernel_rfl) (fun _ _ _ h => h) (Or.inl ⟨by rfl, ?_⟩) hS9 ?_
            rotate_left 1
            · (intro W8 hSw; go_simp; (try with_reducible rfl))
            change wpAnyX _ _ _ _ _ _ _ _ (Act.put _ (some 42) _) _
            try simp only [Act.put, List.setIfInBounds_toArray, List.set_cons_zero, List.set_cons_succ]
            refine wpAnyX_take (i := 10) (oi := _) (v := ?_) rfl (by kernel_rfl) (by kernel_rfl) (by kernel_rfl) (by kernel_rfl) (fun _ _ _ h => h) (Or.inl ⟨by rfl, ?_⟩) hS9 ?_
            rotate_left 1
            · (intro W8 hSw; go_simp; (try with_reducible rfl))
            change wpAnyX _ _ _ _ _ _ _ _ (Act.put _ (some 43) _) _
            try simp only [Act.put, List.setIfInBounds_toArray, List.set_cons_zero, List.set_cons_succ]
            exact H1tf _ _ _ _ ⟨rfl, by kernel_rfl, _, rfl, hid hS9, hid (HC.out.mono hv), hid (B1.out.mono hv), h1⟩
          · go_simp
            refine hK.out _ _ (fun _ => HS.out.alloc _) (fun hS9 => ?_)
            clear hK K
            have hS9 := hS9 (by decide)
            try simp only [Act.put, List.setIfInBounds_toArray, List.set_cons_zero, List.set_cons_succ]
            exact H0tt _ _ _ _ ⟨rfl, by kernel_rfl, _, _, rfl, hid hS9, hid (HC.out.alloc _), hid (B1.out.alloc _), h1, hid (Bx.new rfl), HS.out.2.2.2.2.1, (fun e => absurd B1.out.lt (by omega))⟩
        refine mrg (fun n li ac wv => n = 11 ∧ li = #[true, true, true, true, true, true, true, true, false, false, false, false, true, true, true, true, true, true, true, true, false, false, false, false, false, true, false, false] ∧ ∃ b2 : Nat, ac = { tmps := #[mv 3 3 (some ⟨g0, 0, none⟩) 9 cp, .pointer (some ⟨w.heap.size, 0, none⟩), .pointer (some ⟨w.heap.size + 1, 0, none⟩), .bool false, .pointer (some ⟨w.heap.size + 1 + 1, 0, none⟩), .pointer (some ⟨w.heap.size + 1 + 1 + 1, 0, none⟩), .slice (some ⟨g0, 15, none⟩) 3 3, .slice (some ⟨g0, 30, none⟩) 3 3, .int .i64 (j : Int), .pointer (some ⟨wr.heap.size, 0, none⟩), .int .i64 (k : Int), .int .i64 (l : Int), u12, .pointer (some ⟨b2, 0, none⟩), u14, .agg #[.int .i64 3, .int .i64 3, .slice (some ⟨g0, 0, none⟩) 9 cp], .slice (some ⟨g0, 15, none⟩) 3 3, .agg #[.int .i64 3, .int .i64 3, .slice (some ⟨g0, 0, none⟩) 9 cp], .slice (some ⟨g0, 30, none⟩) 3 3, .agg #[.int .i64 3, .int .i64 3, .slice (some ⟨g0, 0, none⟩) 9 cp], .slice (some ⟨g0, 0, none⟩) 3 3, .int .i64 3, .int .i64 (j : Int), .bool true, .int .i64 (j : Int), .pointer (some ⟨g0, j * 5, none⟩), .agg #[.int .i64 xj.a, .int .i64 xj.b, .int .i64 xj.c, .int .i64 xj.d, .int .i64 xj.e], .int .i64 (j : Int), .int .i64 ((j : Int) + 1), .int .i64 (k : Int), .int .i64 (j : Int), .int .i64 ((j : Int) + 2), .int .i64 (l : Int), .slice (some ⟨g0, 15, none⟩) 3 3, .int .i64 (k : Int), .pointer (some ⟨g0, 15 + k * 5, none⟩), .agg #[.int .i64 sk.a, .int .i64 sk.b, .int .i64 sk.c, .int .i64 sk.d, .int .i64 sk.e], .slice (some ⟨g0, 30, none⟩) 3 3, .int .i64 (l : Int), .pointer (some ⟨g0, 30 + l * 5, none⟩), .agg #[.int .i64 tl.a, .int .i64 tl.b, .int .i64 tl.c, .int .i64 tl.d, .int .i64 tl.e], u41, u42, u43, u44, .slice (some ⟨g0, 15, none⟩) 3 3, .int .i64 (l : Int), .pointer (some ⟨g0, 15 + l * 5, none⟩), .agg #[.int .i64 sl.a, .int .i64 sl.b, .int .i64 sl.c, .int .i64 sl.d, .int .i64 sl.e], .slice (some ⟨g0, 30, none⟩) 3 3, .int .i64 (k : Int), .pointer (some ⟨g0, 30 + k * 5, none⟩), .agg #[.int .i64 tk.a, .int .i64 tk.b, .int .i64 tk.c, .int .i64 tk.d, .int .i64 tk.e], u53, u54, u55, u56, u57, u58, u59, u60, u61, u62, u63, u64, u65, u66, u67, u68, u69, u70, u71, u72, u73, u74, undef, undef, undef, undef], defers := [] } ∧ Hid (S8 w w5 wr g0 xs t xj wv) ∧ Hid (Bx wv (w.heap.size + 1 + 1) 164 #[.bool z]) ∧ Hid (Bx wv b2 99 #[.int .i64 0, .int .i64 0, .int .i64 0, .int .i64 0, .int .i64 0]) ∧ w5.heap.size ≤ b2) ?_ (fun H0ft => ?_)
        · rintro n li ac wv ⟨rfl, rfl, b2, rfl, HS, HC, B2, h2⟩
          have hBz := hB.size
          have hlc := HC.out.lt
          have hls := HS.out.2.2.2.2.1
          have hlx := HS.out.2.2.2.1.lt
          have hl2 := B2.out.lt
          refine wpAnyX_two (i := 8) (j := 24) (oi := _) (oj := _) rfl rfl (by kernel_rfl) (fun K hK => ?_) (fun K hK => ?_)
          · go_simp
            refine (HQm1.out _).mono ?_
            rintro ee v ⟨rfl, hv⟩
            refine hK.out _ _ (fun _ => HS.out.mono hv) (fun hS9 => ?_)
            clear hK K
            have hS9 := hS9 (by decide)
            try simp only [Act.put, List.setIfInBounds_toArray, List.set_cons_zero, List.set_cons_succ]
            refine wpAnyX_take (i := 9) (oi := _) (v := ?_) rfl (by kernel_rfl) (by kernel_rfl) (by kernel_rfl) (by kernel_rfl) (fun _ _ _ h => h) (Or.inl ⟨by rfl, ?_⟩) hS9 ?_
            rotate_left 1
            · (intro W8 hSw; go_simp; (try with_reducible rfl))
            change wpAnyX _ _ _ _ _ _ _ _ (Act.put _ (some 42) _) _
            try simp only [Act.put, List.setIfInBounds_toArray, List.set_cons_zero, List.set_cons_succ]
            refine wpAnyX_take (i := 10) (oi := _) (v := ?_) rfl (by kernel_rfl) (by kernel_rfl) (by kernel_rfl) (by kernel_rfl) (fun _ _ _ h => h) (Or.inl ⟨by rfl, ?_⟩) hS9 ?_
            rotate_left 1
            · (intro W8 hSw; go_simp; (try with_reducible rfl))
            change wpAnyX _ _ _ _ _ _ _ _ (Act.put _ (some 43) _) _
            try simp only [Act.put, List.setIfInBounds_toArray, List.set_cons_zero, List.set_cons_succ]
            exact H1ft _ _ _ _ ⟨rfl, by kernel_rfl, _, rfl, hid hS9, hid (HC.out.mono hv), hid (B2.out.mono hv), h2⟩
          · go_simp
            refine hK.out _ _ (fun _ => HS.out.alloc _) (fun hS9 => ?_)
            clear hK K
            have hS9 := hS9 (by decide)
            try simp only [Act.put, List.setIfInBounds_toArray, List.set_cons_zero, List.set_cons_succ]
            exact H0tt _ _ _ _ ⟨rfl, by kernel_rfl, _, _, rfl, hid hS9, hid (HC.out.alloc _), hid (Bx.new rfl), HS.out.2.2.2.2.1, hid (B2.out.alloc _), h2, (fun e => absurd B2.out.lt (by omega))⟩
        refine mrg (fun n li ac wv => n = 12 ∧ li = #[true, true, true, true, true, true, true, true, false, false, false, false, true, true, true, true, true, true, true, true, false, false, false, false, false, false, false, false] ∧ ac = { tmps := #[mv 3 3 (some ⟨g0, 0, none⟩) 9 cp, .pointer (some ⟨w.heap.size, 0, none⟩), .pointer (some ⟨w.heap.size + 1, 0, none⟩), .bool false, .pointer (some ⟨w.heap.size + 1 + 1, 0, none⟩), .pointer (some ⟨w.heap.size + 1 + 1 + 1, 0, none⟩), .slice (some ⟨g0, 15, none⟩) 3 3, .slice (some ⟨g0, 30, none⟩) 3 3, .int .i64 (j : Int), .pointer (some ⟨wr.heap.size, 0, none⟩), .int .i64 (k : Int), .int .i64 (l : Int), u12, u13, u14, .agg #[.int .i64 3, .int .i64 3, .slice (some ⟨g0, 0, none⟩) 9 cp], .slice (some ⟨g0, 15, none⟩) 3 3, .agg #[.int .i64 3, .int .i64 3, .slice (some ⟨g0, 0, none⟩) 9 cp], .slice (some ⟨g0, 30, none⟩) 3 3, .agg #[.int .i64 3, .int .i64 3, .slice (some ⟨g0, 0, none⟩) 9 cp], .slice (some ⟨g0, 0, none⟩) 3 3, .int .i64 3, .int .i64 (j : Int), .bool true, .int .i64 (j : Int), .pointer (some ⟨g0, j * 5, none⟩), .agg #[.int .i64 xj.a, .int .i64 xj.b, .int .i64 xj.c, .int .i64 xj.d, .int .i64 xj.e], .int .i64 (j : Int), .int .i64 ((j : Int) + 1), .int .i64 (k : Int), .int .i64 (j : Int), .int .i64 ((j : Int) + 2), .int .i64 (l : Int), .slice (some ⟨g0, 15, none⟩) 3 3, .int .i64 (k : Int), .pointer (some ⟨g0, 15 + k * 5, none⟩), .agg #[.int .i64 sk.a, .int .i64 sk.b, .int .i64 sk.c, .int .i64 sk.d, .int .i64 sk.e], .slice (some ⟨g0, 30, none⟩) 3 3, .int .i64 (l : Int), .pointer (some ⟨g0, 30 + l * 5, none⟩), .agg #[.int .i64 tl.a, .int .i64 tl.b, .int .i64 tl.c, .int .i64 tl.d, .int .i64 tl.e], u41, u42, u43, u44, .slice (some ⟨g0, 15, none⟩) 3 3, .int .i64 (l : Int), .pointer (some ⟨g0, 15 + l * 5, none⟩), .agg #[.int .i64 sl.a, .int .i64 sl.b, .int .i64 sl.c, .int .i64 sl.d, .int .i64 sl.e], .slice (some ⟨g0, 30, none⟩) 3 3, .int .i64 (k : Int), .pointer (some ⟨g0, 30 + k * 5, none⟩), .agg #[.int .i64 tk.a, .int .i64 tk.b, .int .i64 tk.c, .int .i64 tk.d, .int .i64 tk.e], u53, u54, u55, u56, u57, u58, u59, u60, u61, u62, u63, u64, u65, u66, u67, u68, u69, u70, u71, u72, u73, u74, undef, undef, undef, undef], defers := [] } ∧ Hid (S8 w w5 wr g0 xs t xj wv) ∧ Hid (Bx wv (w.heap.size + 1 + 1) 164 #[.bool z])) ?_ (fun H0ff => ?_)
        · rintro n li ac wv ⟨rfl, rfl, rfl, HS, HC⟩
          have hBz := hB.size
          have hlc := HC.out.lt
          have hls := HS.out.2.2.2.2.1
          have hlx := HS.out.2.2.2.1.lt
          refine wpAnyX_three (i := 8) (j := 24) (k := 25) (oi := _) (oj := _) (ok := _) rfl rfl rfl (by kernel_rfl) (fun K hK => ?_) (fun K hK => ?_) (fun K hK => ?_)
          · go_simp
            refine (HQm1.out _).mono ?_
            rintro ee v ⟨rfl, hv⟩
            refine hK.out _ _ (fun _ => HS.out.mono hv) (fun hS9 => ?_)
            clear hK K
            have hS9 := hS9 (by decide)
            try simp only [Act.put, List.setIfInBounds_toArray, List.set_cons_zero, List.set_cons_succ]
            refine wpAnyX_take (i := 9) (oi := _) (v := ?_) rfl (by kernel_rfl) (by kernel_rfl) (by kernel_rfl) (by kernel_rfl) (fun _ _ _ h => h) (Or.inl ⟨by rfl, ?_⟩) hS9 ?_
            rotate_left 1
            · (intro W8 hSw; go_simp; (try with_reducible rfl))
            change wpAnyX _ _ _ _ _ _ _ _ (Act.put _ (some 42) _) _
            try simp only [Act.put, List.setIfInBounds_toArray, List.set_cons_zero, List.set_cons_succ]
            refine wpAnyX_take (i := 10) (oi := _) (v := ?_) rfl (by kernel_rfl) (by kernel_rfl) (by kernel_rfl) (by kernel_rfl) (fun _ _ _ h => h) (Or.inl ⟨by rfl, ?_⟩) hS9 ?_
            rotate_left 1
            · (intro W8 hSw; go_simp; (try with_reducible rfl))
            change wpAnyX _ _ _ _ _ _ _ _ (Act.put _ (some 43) _) _
            try simp only [Act.put, List.setIfInBounds_toArray, List.set_cons_zero, List.set_cons_succ]
            exact H1ff _ _ _ _ ⟨rfl, by kernel_rfl, rfl, hid hS9, hid (HC.out.mono hv)⟩
          · go_simp
            refine hK.out _ _ (fun _ => HS.out.alloc _) (fun hS9 => ?_)
            clear hK K
            have hS9 := hS9 (by decide)
            try simp only [Act.put, List.setIfInBounds_toArray, List.set_cons_zero, List.set_cons_succ]
            exact H0tf _ _ _ _ ⟨rfl, by kernel_rfl, _, rfl, hid hS9, hid (HC.out.alloc _), hid (Bx.new rfl), HS.out.2.2.2.2.1⟩
          · go_simp
            refine hK.out _ _ (fun _ => HS.out.alloc _) (fun hS9 => ?_)
            clear hK K
            have hS9 := hS9 (by decide)
            try simp only [Act.put, List.setIfInBounds_toArray, List.set_cons_zero, List.set_cons_succ]
            exact H0ft _ _ _ _ ⟨rfl, by kernel_rfl, _, rfl, hid hS9, hid (HC.out.alloc _), hid (Bx.new rfl), HS.out.2.2.2.2.1⟩
        exact H0ff _ _ _ _ ⟨rfl, by kernel_rfl, rfl, hid hS0, hid (Xc5.out)⟩
      case rest =>
        obtain ⟨w8, rfl⟩ : ∃ w8, w8 = wc := ⟨_, rfl⟩
        obtain ⟨⟨b1, b2, rfl, rfl, B1, B2, hb1, hb2⟩, HS, HC⟩ := hcut
        obtain ⟨m3, hm3⟩ : ∃ p, p = subK m1.1 m2.1 := ⟨_, rfl⟩
        have Hm3 := hid hm3
        have HOm3 : Hid (m3.1.ok = true) := hid (by rw [hm3]; exact subK_ok HOm1.out HOm2.out)
        have HQm3 : Hid (∀ w, Calls Try.prog 135 #[m1.1.v, m2.1.v] w fun ee w' => ee = .returned (.tuple #[m3.1.v, .bool (!m3.2)]) ∧ Below w.heap.size w w') := hid (by intro w; rw [hm3]; exact subK_i HOm1.out HOm2.out w)
        clear hm3
        obtain ⟨m4, hm4⟩ : ∃ p, p = mulK xj m3.1 := ⟨_, rfl⟩
        have Hm4 := hid hm4
        have HOm4 : Hid (m4.1.ok = true) := hid (by rw [hm4]; exact mulK_ok HKxj.out HOm3.out)
        have HQm4 : Hid (∀ w, Calls Try.prog 134 #[xj.v, m3.1.v] w fun ee w' => ee = .returned (.tuple #[m4.1.v, .bool (!m4.2)]) ∧ Below w.heap.size w w') := hid (by intro w; rw [hm4]; exact mulK_i HKxj.out HOm3.out w)
        clear hm4
        obtain ⟨m5, hm5⟩ : ∃ p, p = addK t m4.1 := ⟨_, rfl⟩
        have Hm5 := hid hm5
        have HOm5 : Hid (m5.1.ok = true) := hid (by rw [hm5]; exact addK_ok HKt.out HOm4.out)
        have HQm5 : Hid (∀ w, Calls Try.prog 136 #[t.v, m4.1.v] w fun ee w' => ee = .returned (.tuple #[m5.1.v, .bool (!m5.2)]) ∧ Below w.heap.size w w') := hid (by intro w; rw [hm5]; exact addK_i HKt.out HOm4.out w)
        clear hm5
        have hBz := hB.size
        have k10 := B1.out.c 0 rfl
        have k11 := B1.out.c 1 rfl
        have k12 := B1.out.c 2 rfl
        have k13 := B1.out.c 3 rfl
        have k14 := B1.out.c 4 rfl
        have k20 := B2.out.c 0 rfl
        have k21 := B2.out.c 1 rfl
        have k22 := B2.out.c 2 rfl
        have k23 := B2.out.c 3 rfl
        have k24 := B2.out.c 4 rfl
        go_wp2_with (fail)
        refine (HQm3.out _).mono ?_
        rintro ee w9 ⟨rfl, hw9⟩
        have HS9 := hid (HS.out.mono hw9)
        have HC9 := hid (HC.out.mono hw9)
        clear k10 k11 k12 k13 k14 k20 k21 k22 k23 k24 HS HC hw9 B1 B2
        go_wp2_with (fail)
        refine (kp_i (x := m3.1) (ok := !m3.2) (z := ((z || !(!m1.2)) || !(!m2.2))) (g := w.heap.size + 1 + 1) HC9.out).mono ?_
        rintro ee wa ⟨rfl, hwa⟩
        have hlx := HS9.out.2.2.2.1.lt
        have HSa := hid (HS9.out.badly hwa (by omega) hgl (by omega) (by omega) (by omega))
        have HCa := hid (Bx.bad HC9.out hwa)
        clear hwa HS9 HC9
        go_upto_region 10 with (fail)
        obtain ⟨wb, hwb⟩ : ∃ wb : World, wb = wa.alloc (.cells #[.int .i64 m3.1.a, .int .i64 m3.1.b, .int .i64 m3.1.c, .int .i64 m3.1.d, .int .i64 m3.1.e] 99) := ⟨_, rfl⟩
        have HSb : Hid (S8 w w5 wr g0 xs t xj wb) := hid (by rw [hwb]; exact HSa.out.alloc _)
        have HCb : Hid (Bx wb (w.heap.size + 1 + 1) 164 #[.bool (((z || !(!m1.2)) || !(!m2.2)) || !(!m3.2))]) := hid (by rw [hwb]; exact HCa.out.alloc _)
        have HBb : Hid (Bx wb wa.heap.size 99 #[.int .i64 m3.1.a, .int .i64 m3.1.b, .int .i64 m3.1.c, .int .i64 m3.1.d, .int .i64 m3.1.e]) := hid (by rw [hwb]; exact Bx.new rfl)
        have hla := HSa.out.2.2.2.2.1
        rw [← hwb]
        clear hwb HSa HCa
        refine wp_region_x (fun w' => S8 w w5 wr g0 xs t xj w' ∧ Bx w' wa.heap.size 99 #[.int .i64 m3.1.a, .int .i64 m3.1.b, .int .i64 m3.1.c, .int .i64 m3.1.d, .int .i64 m3.1.e]) 11 (by kernel_rfl) ⟨HSb.out.drew, HBb.out⟩ (fun hS0 => ?_)
        refine wpAnyX_take (i := 0) (oi := _) (v := ?_) rfl (by kernel_rfl) (by kernel_rfl) (by kernel_rfl) (by kernel_rfl) (fun _ _ _ h => h) (Or.inl ⟨by rfl, ?_⟩) hS0 ?_
        rotate_left 1
        · (intro W8 hSw; have e0 := hSw.1.2.2.1.c 0 rfl; have e1 := hSw.1.2.2.1.c 1 rfl; have e2 := hSw.1.2.2.1.c 2 rfl; have e3 := hSw.1.2.2.1.c 3 rfl; have e4 := hSw.1.2.2.1.c 4 rfl; go_simp; (try with_reducible rfl))
        change wpAnyX _ _ _ _ _ _ _ _ (Act.put _ (some 63) _) _
        try simp only [Act.put, List.setIfInBounds_toArray, List.set_cons_zero, List.set_cons_succ]
        refine wpAnyX_take (i := 1) (oi := _) (v := ?_) rfl (by kernel_rfl) (by kernel_rfl) (by kernel_rfl) (by kernel_rfl) (fun _ _ _ h => h) (Or.inl ⟨by rfl, ?_⟩) hS0 ?_
        rotate_left 1
        · (intro W8 hSw; have e0 := hSw.1.2.2.2.1.c 0 rfl; have e1 := hSw.1.2.2.2.1.c 1 rfl; have e2 := hSw.1.2.2.2.1.c 2 rfl; have e3 := hSw.1.2.2.2.1.c 3 rfl; have e4 := hSw.1.2.2.2.1.c 4 rfl; go_simp; (try with_reducible rfl))
        change wpAnyX _ _ _ _ _ _ _ _ (Act.put _ (some 64) _) _
        try simp only [Act.put, List.setIfInBounds_toArray, List.set_cons_zero, List.set_cons_succ]
        refine wpAnyX_take (i := 2) (oi := _) (v := ?_) rfl (by kernel_rfl) (by kernel_rfl) (by kernel_rfl) (by kernel_rfl) (fun _ _ _ h => h) (Or.inl ⟨by rfl, ?_⟩) hS0 ?_
        rotate_left 1
        · (intro W8 hSw; have e0 := hSw.2.c 0 rfl; have e1 := hSw.2.c 1 rfl; have e2 := hSw.2.c 2 rfl; have e3 := hSw.2.c 3 rfl; have e4 := hSw.2.c 4 rfl; go_simp; (try with_reducible rfl))
        change wpAnyX _ _ _ _ _ _ _ _ (Act.put _ (some 65) _) _
        try simp only [Act.put, List.setIfInBounds_toArray, List.set_cons_zero, List.set_cons_succ]
        refine wpAnyX_one (i := 3) (o := _) rfl (by kernel_rfl) (fun K hK => ?_)
        go_simp
        refine (HQm4.out _).mono ?_
        rintro ee wd ⟨rfl, hwd⟩
        refine hK.out _ _ (fun _ => ⟨hS0.1.mono hwd, hS0.2.mono hwd⟩) (fun hS1 => ?_)
        clear hK K
        have hS1 := hS1 (by decide)
        try simp only [Act.put, List.setIfInBounds_toArray, List.set_cons_zero, List.set_cons_succ]
        have HCd := hid (show Bx wd _ _ _ from Bx.mono (W := wb.drew) HCb.out hwd)
        clear hwd HCb
        refine wpAnyX_take (i := 4) (oi := _) (v := ?_) rfl (by kernel_rfl) (by kernel_rfl) (by kernel_rfl) (by kernel_rfl) (fun _ _ _ h => h) (Or.inl ⟨by rfl, ?_⟩) hS1 ?_
        rotate_left 1
        · (intro W8 hSw; go_simp; (try with_reducible rfl))
        change wpAnyX _ _ _ _ _ _ _ _ (Act.put _ (some 67) _) _
        try simp only [Act.put, List.setIfInBounds_toArray, List.set_cons_zero, List.set_cons_succ]
        refine wpAnyX_take (i := 5) (oi := _) (v := ?_) rfl (by kernel_rfl) (by kernel_rfl) (by kernel_rfl) (by kernel_rfl) (fun _ _ _ h => h) (Or.inl ⟨by rfl, ?_⟩) hS1 ?_
        rotate_left 1
        · (intro W8 hSw; go_simp; (try with_reducible rfl))
        change wpAnyX _ _ _ _ _ _ _ _ (Act.put _ (some 68) _) _
        try simp only [Act.put, List.setIfInBounds_toArray, List.set_cons_zero, List.set_cons_succ]
        refine wpAnyX_one (i := 6) (o := _) rfl (by kernel_rfl) (fun K hK => ?_)
        go_simp
        refine (kp_i (x := m4.1) (ok := !m4.2) (z := (((z || !(!m1.2)) || !(!m2.2)) || !(!m3.2))) (g := w.heap.size + 1 + 1) HCd.out).mono ?_
        rintro ee we ⟨rfl, hwe⟩
        refine hK.out _ _ (fun _ => ⟨hS1.1.badly hwe (by omega) hgl (by omega) (by omega) (by omega), hS1.2.badly hwe (by omega)⟩) (fun hS2 => ?_)
        clear hK K
        have hS2 := hS2 (by decide)
        try simp only [Act.put, List.setIfInBounds_toArray, List.set_cons_zero, List.set_cons_succ]
        have HCe := hid (Bx.bad HCd.out hwe)
        clear hwe HCd
        refine wpAnyX_one (i := 7) (o := _) rfl (by kernel_rfl) (fun K hK => ?_)
        go_simp
        refine (HQm5.out _).mono ?_
        rintro ee wf ⟨rfl, hwf⟩
        refine hK.out _ _ (fun _ => ⟨hS2.1.mono hwf, hS2.2.mono hwf⟩) (fun hS3 => ?_)
        clear hK K
        have hS3 := hS3 (by decide)
        try simp only [Act.put, List.setIfInBounds_toArray, List.set_cons_zero, List.set_cons_succ]
        have HCf := hid (HCe.out.mono hwf)
        clear hwf HCe
        refine wpAnyX_take (i := 8) (oi := _) (v := ?_) rfl (by kernel_rfl) (by kernel_rfl) (by kernel_rfl) (by kernel_rfl) (fun _ _ _ h => h) (Or.inl ⟨by rfl, ?_⟩) hS3 ?_
        rotate_left 1
        · (intro W8 hSw; go_simp; (try with_reducible rfl))
        change wpAnyX _ _ _ _ _ _ _ _ (Act.put _ (some 71) _) _
        try simp only [Act.put, List.setIfInBounds_toArray, List.set_cons_zero, List.set_cons_succ]
        refine wpAnyX_take (i := 9) (oi := _) (v := ?_) rfl (by kernel_rfl) (by kernel_rfl) (by kernel_rfl) (by kernel_rfl) (fun _ _ _ h => h) (Or.inl ⟨by rfl, ?_⟩) hS3 ?_
        rotate_left 1
        · (intro W8 hSw; go_simp; (try with_reducible rfl))
        change wpAnyX _ _ _ _ _ _ _ _ (Act.put _ (some 72) _) _
        try simp only [Act.put, List.setIfInBounds_toArray, List.set_cons_zero, List.set_cons_succ]
        refine wpAnyX_one (i := 10) (o := _) rfl (by kernel_rfl) (fun K hK => ?_)
        go_simp
        refine (kp_i (x := m5.1) (ok := !m5.2) (z := ((((z || !(!m1.2)) || !(!m2.2)) || !(!m3.2)) || !(!m4.2))) (g := w.heap.size + 1 + 1) HCf.out).mono ?_
        rintro ee wg ⟨rfl, hwg⟩
        refine hK.out _ _ (fun _ => ⟨hS3.1.badly hwg (by omega) hgl (by omega) (by omega) (by omega), hS3.2.badly hwg (by omega)⟩) (fun hS4 => ?_)
        clear hK K
        have hS4 := hS4 (by decide)
        try simp only [Act.put, List.setIfInBounds_toArray, List.set_cons_zero, List.set_cons_succ]
        have HCg := hid (Bx.bad HCf.out hwg)
        clear hwg HCf
        obtain ⟨hR4, hX1, hX3, hX9, hz4, hB4⟩ := hS4.1
        have s0 := hX3.c 0 rfl
        have s1 := hX3.c 1 rfl
        have s2 := hX3.c 2 rfl
        have s3 := hX3.c 3 rfl
        have s4 := hX3.c 4 rfl
        have sf := hX3.f
        have sl9 := hX3.lt
        refine wpAnyX_one (i := 11) (o := _) rfl (by kernel_rfl) (fun K hK => ?_)
        go_simp
        refine hK.out _ _ (fun h => absurd rfl h) (fun hS5 => ?_)
        clear hK K
        try simp only [Act.put, List.setIfInBounds_toArray, List.set_cons_zero, List.set_cons_succ]
        refine wpAnyX_done (by kernel_rfl) ?_ _
        have HXr := hid (hX1.far5 (g := w.heap.size + 1 + 1 + 1) (o := 0) m5.1 (by omega))
        have HXs := hid (hX3.set5 m5.1)
        have HXc := hid (HCg.out.far5 (g := w.heap.size + 1 + 1 + 1) (o := 0) m5.1 (by omega))
        have hBf : Below w.heap.size w (set5 wg (w.heap.size + 1 + 1 + 1) 0 m5.1) := by
          unfold set5
          exact ((((hB4.setCell (by show _ ≤ w.heap.size + 1 + 1 + 1; omega) _).setCell (by show _ ≤ w.heap.size + 1 + 1 + 1; omega) _).setCell (by show _ ≤ w.heap.size + 1 + 1 + 1; omega) _).setCell (by show _ ≤ w.heap.size + 1 + 1 + 1; omega) _).setCell (by show _ ≤ w.heap.size + 1 + 1 + 1; omega) _
        have hzf : w.heap.size + 1 + 1 + 1 < (set5 wg (w.heap.size + 1 + 1 + 1) 0 m5.1).heap.size := HXs.out.lt
        change Exit.inBlock _ _ _ _ (set5 wg (w.heap.size + 1 + 1 + 1) 0 m5.1)
        clear s0 s1 s2 s3 s4 sf sl9 hX1 hX3 hX9 hR4 HCg hS4 hS5 hB4
        generalize set5 wg (w.heap.size + 1 + 1 + 1) 0 m5.1 = wh at HXr HXs HXc hBf hzf ⊢
        go_wp2_with (fail)
        go_roundg m9
        case measure => omega
        case rel =>
          refine ⟨j + 1, m5.1, _, by omega, by go_num, HOm5, ?_, HXr, HXc, HXs, hzf, hBf⟩
          show _ = _
          rw [HKL.out, HST.out]
          unfold stpK
          dsimp only
          rw [← HExj.out, ← HEsk.out, ← HEtl.out, ← HEsl.out, ← HEtk.out, ← Hm1.out, ← Hm2.out, ← Hm3.out, ← Hm4.out, ← Hm5.out]
          simp only [Bool.not_not]

end Go.Proofs.Ytofclfgaekjonaa
