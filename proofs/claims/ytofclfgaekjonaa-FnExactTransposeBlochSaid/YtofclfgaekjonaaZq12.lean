/- ARow, TrS -/
import Derived.Test.YtofclfgaekjonaaZq11
namespace Go.Proofs.Ytofclfgaekjonaa
open Go.RowKit RM
set_option linter.unusedVariables false
set_option linter.unusedSimpArgs false
attribute [local irreducible] World.setCell

/-- a row of sums: what has been added so far -/
def addP (f : Nat → D5) (ys : List D5) (k j q : Nat) : D5 := if k ≤ q ∧ q < k + j then (addS false (f q) (ys.getD (q - k) z5)).1 else f q
def addH (f : Nat → D5) (ys : List D5) (k i : Nat) : Bool := (addS false (f (k + i)) (ys.getD i z5)).2
theorem addP_0 (f : Nat → D5) (ys : List D5) (k N : Nat) : tab N (addP f ys k 0) = tab N f := tab_congr (fun q _ => by unfold addP; rw [if_neg (by omega)])
theorem addP_at (f : Nat → D5) (ys : List D5) (k j : Nat) : addP f ys k j (k + j) = f (k + j) := by unfold addP; rw [if_neg (by omega)]
theorem addP_set {f : Nat → D5} {ys : List D5} {k j N : Nat} {y : D5} (h : k + j < N) (hy : ys[j]? = some y) : (tab N (addP f ys k j)).set (k + j) (addS false (f (k + j)) y).1 = tab N (addP f ys k (j + 1)) := by
  rw [tab_set h]
  refine tab_congr (fun q _ => ?_)
  unfold addP
  by_cases e : q = k + j
  · subst e
    rw [if_pos rfl, if_pos (by omega), Nat.add_sub_cancel_left, getD_of hy]
  · rw [if_neg e]
    by_cases e2 : k ≤ q ∧ q < k + j
    · rw [if_pos e2, if_pos (by omega)]
    · rw [if_neg e2, if_neg (by omega)]
/-- what a row's sum answers -/
def AR (w w' : World) (ee : Ending) (g : Nat) (xs : List D5) (bad : Bool) : Prop :=
  (bad = true → ee = .returned (.bool false)) ∧ (bad = false → ee = .returned (.bool true) ∧ Bk w' g 99 xs) ∧ w.grownBy w' (some g)
theorem z5_off {x : D5} (h0 : x.a = 0) (h1 : x.b = 0) (h2 : x.c = 0) (h3 : x.d = 0) (h4 : x.e = 0) : x = z5 := by
  obtain ⟨a, b, c, d, e⟩ := x
  dsimp only at h0 h1 h2 h3 h4
  subst h0 h1 h2 h3 h4; rfl
theorem Rd.cell_at {W : World} {A : Option Addr} {xs : List D5} (h : Rd W A xs) {q : Nat} {x : D5} (hx : xs[q]? = some x) : ∃ g o, A = some ⟨g, o, none⟩ ∧ Cx W g (o + q * 5) x := h q x hx

set_option maxRecDepth 100000 in
set_option maxHeartbeats 16000000 in
theorem arow {g k m cs c' N : Nat} {A : Option Addr} {f : Nat → D5} {ys : List D5} {w : World} (hG : Bk w g 99 (tab N f)) (hA : Rd w A ys) (hm : ys.length = m) (hk : k + m ≤ N) (hN : N ≤ 1024) (hcs : m ≤ cs) (hcs2 : cs ≤ 1048576) (hc : m ≤ c') (hc2 : c' ≤ 1048576) (hne : ∀ a, A = some a → a.block ≠ g) (ho1 : ∀ i, i < m → (f (k + i)).ok = true) (ho2 : allB ys = true) :
    Calls Try.prog 132 #[.slice (some ⟨g, k * 5, none⟩) m cs, .slice A m c'] w fun ee w' => AR w w' ee g (tab N (addP f ys k m)) (anyB m (addH f ys k)) := by
  have HG := hid hG
  have HA := hid hA
  have HM := hid hm
  have HNE := hid hne
  have HO1 := hid ho1
  have HO2 := hid ho2
  clear hG hA hm hne ho1 ho2
  go_enter Try.func132, Try.ntmps132
  go_wp2_with (fail)
  go_loopg [11] m (fun q s1 wr => ∃ j : Nat, j + q = m ∧ s1 = .int .i64 (j : Int) ∧ Hid (Bk wr g 99 (tab N (addP f ys k j))) ∧ Hid (∀ i, i < j → addH f ys k i = false) ∧ Hid (w.grownBy wr (some g)))
  case atStart => exact ⟨0, by omega, rfl, by show Bk _ _ _ _; rw [addP_0]; exact HG.out, fun i hi => absurd hi (Nat.not_lt_zero i), grown_below (Below.refl _ _)⟩
  case round =>
    obtain ⟨j, hj, rfl, HB, HH, HW⟩ := hrel
    have lg := HB.out.lt
    have hzw := HW.out.size
    cases gk with
    | zero =>
      obtain rfl : j = m := by omega
      go_wp2_with (fail)
      go_ret
      refine ⟨fun h => ?_, fun _ => ⟨rfl, HB.out⟩, HW.out⟩
      rw [anyB_f HH.out] at h; cases h
    | succ m2 =>
      have hlt : j < m := by omega
      have j1 : (j : Int) < (m : Int) := by omega
      obtain ⟨y, hy⟩ : ∃ y, ys[j]? = some y := ⟨_, List.getElem?_eq_getElem (by rw [HM.out]; exact hlt)⟩
      have HKy := hid (all_get HO2.out hy)
      have HKx0 := HO1.out j hlt
      have hG0 := HB.out.cx (k := k + j) (tab_get (by omega))
      rw [addP_at] at hG0
      obtain ⟨x, hxe⟩ : ∃ x, x = f (k + j) := ⟨_, rfl⟩
      rw [← hxe] at hG0 HKx0
      have HXE := hid hxe
      have HKx := hid HKx0
      have HY := hid hy
      obtain ⟨p0, p1, p2, p3, p4⟩ := hG0
      simp only [Nat.add_mul] at p0 p1 p2 p3 p4
      obtain ⟨g', o', rfl, hC⟩ := HA.out.cell_at hy
      have hgw := hC.lt
      have hgn : g' ≠ g := HNE.out _ rfl
      obtain ⟨q0, q1, q2, q3, q4⟩ := hC.at_ (HW.out.block g' hgw (fun e => hgn (by simpa using e)))
      clear hC hxe hy HKx0
      go_upto_region 4 with (fail)
      obtain ⟨W, hW⟩ : ∃ W : World, W = wr.alloc (.cells #[.int .i64 y.a, .int .i64 y.b, .int .i64 y.c, .int .i64 y.d, .int .i64 y.e] 99) := ⟨_, rfl⟩
      have hbW : Below wr.heap.size wr W := by rw [hW]; exact (Below.refl _ _).alloc (Nat.le_refl _) _
      have XW : Bx W wr.heap.size 99 #[.int .i64 y.a, .int .i64 y.b, .int .i64 y.c, .int .i64 y.d, .int .i64 y.e] := by rw [hW]; exact Bx.new rfl
      have hzW : W.heap.size = wr.heap.size + 1 := by rw [hW]; simp
      have hzW1 : wr.heap.size < W.heap.size := by omega
      have hzW2 : W.heap.size ≤ wr.heap.size + 1 := by omega
      rw [← hW]
      clear hW hzW
      have HBW := hid (HB.out.mono hbW)
      have d0 := XW.c 0 rfl
      have d1 := XW.c 1 rfl
      have d2 := XW.c 2 rfl
      have d3 := XW.c 3 rfl
      have d4 := XW.c 4 rfl
      have p0 := kc hbW p0
      have p1 := kc hbW p1
      have p2 := kc hbW p2
      have p3 := kc hbW p3
      have p4 := kc hbW p4
      clear XW
      by_cases hx0 : x = z5
      · have he : addS false x y = (y, false) := by rw [hx0]; exact addS_zl HKy.out
        have hset := addP_set (f := f) (ys := ys) (k := k) (j := j) (N := N) (by omega) HY.out
        rw [← HXE.out, he] at hset
        have HSET := hid hset
        have HE := hid he
        have z0 : W.cell? ⟨g, k * 5 + j * 5, none⟩ = some (.int .i64 0) := by rw [p0, hx0]; rfl
        have z1 : W.cell? ⟨g, k * 5 + j * 5 + 1, none⟩ = some (.int .i64 0) := by rw [p1, hx0]; rfl
        have z2 : W.cell? ⟨g, k * 5 + j * 5 + 2, none⟩ = some (.int .i64 0) := by rw [p2, hx0]; rfl
        have z3 : W.cell? ⟨g, k * 5 + j * 5 + 3, none⟩ = some (.int .i64 0) := by rw [p3, hx0]; rfl
        have z4 : W.cell? ⟨g, k * 5 + j * 5 + 4, none⟩ = some (.int .i64 0) := by rw [p4, hx0]; rfl
        have HWW : Hid (w.grownBy W (some g)) := grown_trans HW.out (grown_below hbW)
        have fr9 := HBW.out.fr
        clear p0 p1 p2 p3 p4 hx0 he hset hbW
        go_wp2_with (fail)
        go_roundg m2
        case measure => omega
        case rel =>
          refine ⟨j + 1, by omega, by go_num, ?_, ?_, ?_⟩
          · show Bk _ _ _ _
            have h1 := HBW.out.set (k := k + j) y (by rw [tab_len]; omega)
            rw [show (tab N (addP f ys k j)).set (k + j) y = _ from HSET.out, Nat.add_mul] at h1
            exact h1
          · show ∀ i, i < j + 1 → _
            intro i hi
            by_cases e : i = j
            · subst e; unfold addH; rw [← HXE.out, getD_of HY.out, HE.out]
            · exact HH.out i (by omega)
          · exact grown_set5 HWW.out
      have HX0 := hid hx0
      clear hx0
      go_cut [21] (fun s21 wx => s21 = .bool false ∧ wx = W)
      case first =>
        go_wp2_with (fail)
        all_goals go_meet
        all_goals first | exact ⟨rfl, rfl⟩ | exact absurd (z5_off (by assumption) (by assumption) (by assumption) (by assumption) (by assumption)) HX0.out
      obtain ⟨rfl, hq0⟩ := hcut
      have hq1 := hq0.symm
      subst hq1
      go_wp2_with (fail)
      cases hf : (addS false x y).2
      · have HF := hid hf
        clear hf
        go_cut [7, 8] (fun s7 s8 wx => CutG (∃ bb : Nat, s7 = .pointer (some ⟨bb, 0, none⟩) ∧ s8 = .bool true ∧ Hid (Bx wx bb 99 #[.int .i64 (addS false x y).1.a, .int .i64 (addS false x y).1.b, .int .i64 (addS false x y).1.c, .int .i64 (addS false x y).1.d, .int .i64 (addS false x y).1.e]) ∧ W.heap.size ≤ bb) (Below W.heap.size W wx))
        case first =>
          have yp0 : W.drew.cell? ⟨g, k * 5 + j * 5, none⟩ = some (.int .i64 x.a) := p0
          have yp1 : W.drew.cell? ⟨g, k * 5 + j * 5 + 1, none⟩ = some (.int .i64 x.b) := p1
          have yp2 : W.drew.cell? ⟨g, k * 5 + j * 5 + 2, none⟩ = some (.int .i64 x.c) := p2
          have yp3 : W.drew.cell? ⟨g, k * 5 + j * 5 + 3, none⟩ = some (.int .i64 x.d) := p3
          have yp4 : W.drew.cell? ⟨g, k * 5 + j * 5 + 4, none⟩ = some (.int .i64 x.e) := p4
          have yd0 : W.drew.cell? ⟨wr.heap.size, 0, none⟩ = some (.int .i64 y.a) := d0
          have yd1 : W.drew.cell? ⟨wr.heap.size, 1, none⟩ = some (.int .i64 y.b) := d1
          have yd2 : W.drew.cell? ⟨wr.heap.size, 2, none⟩ = some (.int .i64 y.c) := d2
          have yd3 : W.drew.cell? ⟨wr.heap.size, 3, none⟩ = some (.int .i64 y.d) := d3
          have yd4 : W.drew.cell? ⟨wr.heap.size, 4, none⟩ = some (.int .i64 y.e) := d4
          refine wp_region_x (fun w' => w'.cell? ⟨g, k * 5 + j * 5, none⟩ = some (.int .i64 x.a) ∧ w'.cell? ⟨g, k * 5 + j * 5 + 1, none⟩ = some (.int .i64 x.b) ∧ w'.cell? ⟨g, k * 5 + j * 5 + 2, none⟩ = some (.int .i64 x.c) ∧ w'.cell? ⟨g, k * 5 + j * 5 + 3, none⟩ = some (.int .i64 x.d) ∧ w'.cell? ⟨g, k * 5 + j * 5 + 4, none⟩ = some (.int .i64 x.e) ∧ w'.cell? ⟨wr.heap.size, 0, none⟩ = some (.int .i64 y.a) ∧ w'.cell? ⟨wr.heap.size, 1, none⟩ = some (.int .i64 y.b) ∧ w'.cell? ⟨wr.heap.size, 2, none⟩ = some (.int .i64 y.c) ∧ w'.cell? ⟨wr.heap.size, 3, none⟩ = some (.int .i64 y.d) ∧ w'.cell? ⟨wr.heap.size, 4, none⟩ = some (.int .i64 y.e)) 1000 (by kernel_rfl) ⟨yp0, yp1, yp2, yp3, yp4, yd0, yd1, yd2, yd3, yd4⟩ (fun hS0 => ?_)
          refine wpAnyX_take (i := 0) (oi := _) (v := ?_) rfl (by kernel_rfl) (by kernel_rfl) (by kernel_rfl) (by kernel_rfl) (fun _ _ _ h => h) (Or.inl ⟨by rfl, ?_⟩) hS0 ?_
          rotate_left 1
          · (intro w hSw; (try dsimp only at hSw); go_simp; (try with_reducible rfl))
          try simp only [Act.put, List.setIfInBounds_toArray, List.set_cons_zero, List.set_cons_succ]
          refine wpAnyX_take (i := 1) (oi := _) (v := ?_) rfl (by kernel_rfl) (by kernel_rfl) (by kernel_rfl) (by kernel_rfl) (fun _ _ _ h => h) (Or.inl ⟨by rfl, ?_⟩) hS0 ?_
          rotate_left 1
          · (intro w hSw; (try dsimp only at hSw); go_simp; (try with_reducible rfl))
          try simp only [Act.put, List.setIfInBounds_toArray, List.set_cons_zero, List.set_cons_succ]
          refine wpAnyX_take (i := 2) (oi := _) (v := ?_) rfl (by kernel_rfl) (by kernel_rfl) (by kernel_rfl) (by kernel_rfl) (fun _ _ _ h => h) (Or.inl ⟨by rfl, ?_⟩) hS0 ?_
          rotate_left 1
          · (intro w hSw; (try dsimp only at hSw); go_simp; (try with_reducible rfl))
          try simp only [Act.put, List.setIfInBounds_toArray, List.set_cons_zero, List.set_cons_succ]
          refine wpAnyX_take (i := 3) (oi := _) (v := ?_) rfl (by kernel_rfl) (by kernel_rfl) (by kernel_rfl) (by kernel_rfl) (fun _ _ _ h => h) (Or.inl ⟨by rfl, ?_⟩) hS0 ?_
          rotate_left 1
          · (intro w hSw; (try dsimp only at hSw); go_simp; (try with_reducible rfl))
          try simp only [Act.put, List.setIfInBounds_toArray, List.set_cons_zero, List.set_cons_succ]
          refine wpAnyX_take (i := 4) (oi := _) (v := ?_) rfl (by kernel_rfl) (by kernel_rfl) (by kernel_rfl) (by kernel_rfl) (fun _ _ _ h => h) (Or.inl ⟨by rfl, ?_⟩) hS0 ?_
          rotate_left 1
          · (intro w hSw; (try dsimp only at hSw); go_simp; (try with_reducible rfl))
          try simp only [Act.put, List.setIfInBounds_toArray, List.set_cons_zero, List.set_cons_succ]
          refine wpAnyX_two (i := 5) (j := 9) (oi := _) (oj := _) rfl rfl (by kernel_rfl) (fun K hK => ?_) (fun K hK => ?_)
          · go_simp
            refine (iadd_t (x := x) (y := y) HKx.out HKy.out HF.out _).mono ?_
            rintro ee w8 ⟨rfl, hb8⟩
            have hz8 := hb8.size
            (try simp only [World.size_drew, World.size_alloc] at hz8)
            refine hK.out _ _ (fun _ => ?_) (fun hS1 => ?_)
            · exact ⟨kc hb8 (hS0.1), kc hb8 (hS0.2.1), kc hb8 (hS0.2.2.1), kc hb8 (hS0.2.2.2.1), kc hb8 (hS0.2.2.2.2.1), kc hb8 (hS0.2.2.2.2.2.1), kc hb8 (hS0.2.2.2.2.2.2.1), kc hb8 (hS0.2.2.2.2.2.2.2.1), kc hb8 (hS0.2.2.2.2.2.2.2.2.1), kc hb8 (hS0.2.2.2.2.2.2.2.2.2)⟩
            clear hK K
            have hS1 := hS1 (by decide)
            try simp only [Act.put, List.setIfInBounds_toArray, List.set_cons_zero, List.set_cons_succ]
            refine wpAnyX_take (i := 6) (oi := _) (v := ?_) rfl (by kernel_rfl) (by kernel_rfl) (by kernel_rfl) (by kernel_rfl) (fun _ _ _ h => h) (Or.inl ⟨by rfl, ?_⟩) hS1 ?_
            rotate_left 1
            · (intro w hSw; (try dsimp only at hSw); go_simp; (try with_reducible rfl))
            try simp only [Act.put, List.setIfInBounds_toArray, List.set_cons_zero, List.set_cons_succ]
            refine wpAnyX_take (i := 7) (oi := _) (v := ?_) rfl (by kernel_rfl) (by kernel_rfl) (by kernel_rfl) (by kernel_rfl) (fun _ _ _ h => h) (Or.inl ⟨by rfl, ?_⟩) hS1 ?_
            rotate_left 1
            · (intro w hSw; (try dsimp only at hSw); go_simp; (try with_reducible rfl))
            try simp only [Act.put, List.setIfInBounds_toArray, List.set_cons_zero, List.set_cons_succ]
            refine wpAnyX_take (i := 8) (oi := _) (v := ?_) rfl (by kernel_rfl) (by kernel_rfl) (by kernel_rfl) (by kernel_rfl) (fun _ _ _ h => h) (Or.inl ⟨by rfl, ?_⟩) hS1 ?_
            rotate_left 1
            · (intro w hSw; (try dsimp only at hSw); go_simp; (try with_reducible rfl))
            try simp only [Act.put, List.setIfInBounds_toArray, List.set_cons_zero, List.set_cons_succ]
            refine wpAnyX_one (i := 9) (o := _) rfl (by kernel_rfl) (fun K hK => ?_)
            go_simp
            refine hK.out _ _ (fun _ => ?_) (fun hS2 => ?_)
            · first | exact ⟨kal (hS1.1), kal (hS1.2.1), kal (hS1.2.2.1), kal (hS1.2.2.2.1), kal (hS1.2.2.2.2.1), kal (hS1.2.2.2.2.2.1), kal (hS1.2.2.2.2.2.2.1), kal (hS1.2.2.2.2.2.2.2.1), kal (hS1.2.2.2.2.2.2.2.2.1), kal (hS1.2.2.2.2.2.2.2.2.2)⟩ | exact ⟨kald (hS1.1), kald (hS1.2.1), kald (hS1.2.2.1), kald (hS1.2.2.2.1), kald (hS1.2.2.2.2.1), kald (hS1.2.2.2.2.2.1), kald (hS1.2.2.2.2.2.2.1), kald (hS1.2.2.2.2.2.2.2.1), kald (hS1.2.2.2.2.2.2.2.2.1), kald (hS1.2.2.2.2.2.2.2.2.2)⟩
            clear hK K
            have hS2 := hS2 (by decide)
            try simp only [Act.put, List.setIfInBounds_toArray, List.set_cons_zero, List.set_cons_succ]
            refine wpAnyX_one (i := 10) (o := _) rfl (by kernel_rfl) (fun K hK => ?_)
            go_simp
            refine hK.out _ _ (fun _ => ?_) (fun hS3 => ?_)
            · first | exact ⟨kre (by omega) (hS2.1), kre (by omega) (hS2.2.1), kre (by omega) (hS2.2.2.1), kre (by omega) (hS2.2.2.2.1), kre (by omega) (hS2.2.2.2.2.1), kre (by omega) (hS2.2.2.2.2.2.1), kre (by omega) (hS2.2.2.2.2.2.2.1), kre (by omega) (hS2.2.2.2.2.2.2.2.1), kre (by omega) (hS2.2.2.2.2.2.2.2.2.1), kre (by omega) (hS2.2.2.2.2.2.2.2.2.2)⟩ | exact ⟨kal (hS2.1), kal (hS2.2.1), kal (hS2.2.2.1), kal (hS2.2.2.2.1), kal (hS2.2.2.2.2.1), kal (hS2.2.2.2.2.2.1), kal (hS2.2.2.2.2.2.2.1), kal (hS2.2.2.2.2.2.2.2.1), kal (hS2.2.2.2.2.2.2.2.2.1), kal (hS2.2.2.2.2.2.2.2.2.2)⟩
            clear hK K
            have hS3 := hS3 (by decide)
            try simp only [Act.put, List.setIfInBounds_toArray, List.set_cons_zero, List.set_cons_succ]
            refine wpAnyX_take (i := 11) (oi := _) (v := ?_) rfl (by kernel_rfl) (by kernel_rfl) (by kernel_rfl) (by kernel_rfl) (fun _ _ _ h => h) (Or.inl ⟨by rfl, ?_⟩) hS3 ?_
            rotate_left 1
            · (intro w hSw; (try dsimp only at hSw); go_simp; (try with_reducible rfl))
            change wpAnyX _ _ _ _ _ _ _ _ (Act.put _ (some 8) _) _
            try simp only [Act.put, List.setIfInBounds_toArray, List.set_cons_zero, List.set_cons_succ]
            refine wpAnyX_done (by kernel_rfl) ?_ _
            go_wp2_with fail
            go_meet
            refine ⟨⟨_, rfl, rfl, ?_, ?_⟩, ?_⟩
            · show Bx _ _ _ _
              first | exact Bx.new rfl | exact ((((QB.set rfl).set rfl).set rfl).set rfl).set rfl
            · first | exact Nat.le_refl _ | omega
            · (repeat' (first | (with_reducible exact Below.refl _ _) | (with_reducible assumption) | (with_reducible refine Below.alloc ?_ ?_ _) | (with_reducible refine Below.drew ?_) | (with_reducible refine below_drewN ?_ _) | (with_reducible refine Below.setCell ?_ ?_ _) | (with_reducible refine chain ?_ (by assumption) ?_) | omega | (simp; done) | (simp; omega)))
          · go_simp
            refine hK.out _ _ (fun _ => ?_) (fun hS1 => ?_)
            · first | exact ⟨kal (hS0.1), kal (hS0.2.1), kal (hS0.2.2.1), kal (hS0.2.2.2.1), kal (hS0.2.2.2.2.1), kal (hS0.2.2.2.2.2.1), kal (hS0.2.2.2.2.2.2.1), kal (hS0.2.2.2.2.2.2.2.1), kal (hS0.2.2.2.2.2.2.2.2.1), kal (hS0.2.2.2.2.2.2.2.2.2)⟩ | exact ⟨kald (hS0.1), kald (hS0.2.1), kald (hS0.2.2.1), kald (hS0.2.2.2.1), kald (hS0.2.2.2.2.1), kald (hS0.2.2.2.2.2.1), kald (hS0.2.2.2.2.2.2.1), kald (hS0.2.2.2.2.2.2.2.1), kald (hS0.2.2.2.2.2.2.2.2.1), kald (hS0.2.2.2.2.2.2.2.2.2)⟩
            clear hK K
            have hS1 := hS1 (by decide)
            try simp only [Act.put, List.setIfInBounds_toArray, List.set_cons_zero, List.set_cons_succ]
            refine wpAnyX_one (i := 5) (o := _) rfl (by kernel_rfl) (fun K hK => ?_)
            go_simp
            refine (iadd_t (x := x) (y := y) HKx.out HKy.out HF.out _).mono ?_
            rintro ee w8 ⟨rfl, hb8⟩
            have hz8 := hb8.size
            (try simp only [World.size_drew, World.size_alloc] at hz8)
            refine hK.out _ _ (fun _ => ?_) (fun hS2 => ?_)
            · exact ⟨kc hb8 (hS1.1), kc hb8 (hS1.2.1), kc hb8 (hS1.2.2.1), kc hb8 (hS1.2.2.2.1), kc hb8 (hS1.2.2.2.2.1), kc hb8 (hS1.2.2.2.2.2.1), kc hb8 (hS1.2.2.2.2.2.2.1), kc hb8 (hS1.2.2.2.2.2.2.2.1), kc hb8 (hS1.2.2.2.2.2.2.2.2.1), kc hb8 (hS1.2.2.2.2.2.2.2.2.2)⟩
            clear hK K
            have hS2 := hS2 (by decide)
            try simp only [Act.put, List.setIfInBounds_toArray, List.set_cons_zero, List.set_cons_succ]
            refine wpAnyX_take (i := 6) (oi := _) (v := ?_) rfl (by kernel_rfl) (by kernel_rfl) (by kernel_rfl) (by kernel_rfl) (fun _ _ _ h => h) (Or.inl ⟨by rfl, ?_⟩) hS2 ?_
            rotate_left 1
            · (intro w hSw; (try dsimp only at hSw); go_simp; (try with_reducible rfl))
            try simp only [Act.put, List.setIfInBounds_toArray, List.set_cons_zero, List.set_cons_succ]
            refine wpAnyX_take (i := 7) (oi := _) (v := ?_) rfl (by kernel_rfl) (by kernel_rfl) (by kernel_rfl) (by kernel_rfl) (fun _ _ _ h => h) (Or.inl ⟨by rfl, ?_⟩) hS2 ?_
            rotate_left 1
            · (intro w hSw; (try dsimp only at hSw); go_simp; (try with_reducible rfl))
            try simp only [Act.put, List.setIfInBounds_toArray, List.set_cons_zero, List.set_cons_succ]
            refine wpAnyX_take (i := 8) (oi := _) (v := ?_) rfl (by kernel_rfl) (by kernel_rfl) (by kernel_rfl) (by kernel_rfl) (fun _ _ _ h => h) (Or.inl ⟨by rfl, ?_⟩) hS2 ?_
            rotate_left 1
            · (intro w hSw; (try dsimp only at hSw); go_simp; (try with_reducible rfl))
            try simp only [Act.put, List.setIfInBounds_toArray, List.set_cons_zero, List.set_cons_succ]
            refine wpAnyX_one (i := 10) (o := _) rfl (by kernel_rfl) (fun K hK => ?_)
            have QB : Bx w8 W.heap.size 99 #[.int .i64 0, .int .i64 0, .int .i64 0, .int .i64 0, .int .i64 0] := by
              have QB0 : Bx (W.alloc (.cells #[.int .i64 0, .int .i64 0, .int .i64 0, .int .i64 0, .int .i64 0] 99)) W.heap.size 99 #[.int .i64 0, .int .i64 0, .int .i64 0, .int .i64 0, .int .i64 0] := Bx.new rfl
              exact (hb8.block _ (by (try simp only [World.size_drew, World.size_alloc]); omega)).trans QB0
            have n0 := QB.c 0 rfl
            have n1 := QB.c 1 rfl
            have n2 := QB.c 2 rfl
            have n3 := QB.c 3 rfl
            have n4 := QB.c 4 rfl
            have nf := QB.f
            go_simp
            refine hK.out _ _ (fun _ => ?_) (fun hS3 => ?_)
            · exact ⟨kst5 (by omega) (hS2.1), kst5 (by omega) (hS2.2.1), kst5 (by omega) (hS2.2.2.1), kst5 (by omega) (hS2.2.2.2.1), kst5 (by omega) (hS2.2.2.2.2.1), kst5 (by omega) (hS2.2.2.2.2.2.1), kst5 (by omega) (hS2.2.2.2.2.2.2.1), kst5 (by omega) (hS2.2.2.2.2.2.2.2.1), kst5 (by omega) (hS2.2.2.2.2.2.2.2.2.1), kst5 (by omega) (hS2.2.2.2.2.2.2.2.2.2)⟩
            clear hK K
            have hS3 := hS3 (by decide)
            try simp only [Act.put, List.setIfInBounds_toArray, List.set_cons_zero, List.set_cons_succ]
            refine wpAnyX_take (i := 11) (oi := _) (v := ?_) rfl (by kernel_rfl) (by kernel_rfl) (by kernel_rfl) (by kernel_rfl) (fun _ _ _ h => h) (Or.inl ⟨by rfl, ?_⟩) hS3 ?_
            rotate_left 1
            · (intro w hSw; (try dsimp only at hSw); go_simp; (try with_reducible rfl))
            change wpAnyX _ _ _ _ _ _ _ _ (Act.put _ (some 8) _) _
            try simp only [Act.put, List.setIfInBounds_toArray, List.set_cons_zero, List.set_cons_succ]
            refine wpAnyX_done (by kernel_rfl) ?_ _
            go_wp2_with fail
            go_meet
            refine ⟨⟨_, rfl, rfl, ?_, ?_⟩, ?_⟩
            · show Bx _ _ _ _
              first | exact Bx.new rfl | exact ((((QB.set rfl).set rfl).set rfl).set rfl).set rfl
            · first | exact Nat.le_refl _ | omega
            · (repeat' (first | (with_reducible exact Below.refl _ _) | (with_reducible assumption) | (with_reducible refine Below.alloc ?_ ?_ _) | (with_reducible refine Below.drew ?_) | (with_reducible refine below_drewN ?_ _) | (with_reducible refine Below.setCell ?_ ?_ _) | (with_reducible refine chain ?_ (by assumption) ?_) | omega | (simp; done) | (simp; omega)))
        case rest =>
          obtain ⟨w9, rfl⟩ : ∃ w9, w9 = wc := ⟨_, rfl⟩
          obtain ⟨⟨bb, rfl, rfl, XS, hbb⟩, hb9⟩ := hcut
          have hz9 := hb9.size
          have lbb := XS.out.lt
          have e0 := XS.out.c 0 rfl
          have e1 := XS.out.c 1 rfl
          have e2 := XS.out.c 2 rfl
          have e3 := XS.out.c 3 rfl
          have e4 := XS.out.c 4 rfl
          have HB9 := hid (HBW.out.mono hb9)
          have hW9 : Hid (w.grownBy w9 (some g)) := grown_trans HW.out (grown_below (chain hbW hb9 (by omega)))
          have fr9 := HB9.out.fr
          obtain ⟨r0, r1, r2, r3, r4⟩ := HB9.out.cx (k := k + j) (tab_get (by omega))
          simp only [Nat.add_mul] at r0 r1 r2 r3 r4
          go_wp2_with (fail)
          go_roundg m2
          case measure => omega
          case rel =>
            refine ⟨j + 1, by omega, by go_num, ?_, ?_, ?_⟩
            · show Bk _ _ _ _
              have h1 := HB9.out.set (k := k + j) (addS false x y).1 (by rw [tab_len]; omega)
              rw [HXE.out, addP_set (by omega) HY.out, ← HXE.out, Nat.add_mul] at h1
              exact h1
            · show ∀ i, i < j + 1 → _
              intro i hi
              by_cases e : i = j
              · subst e; unfold addH; rw [← HXE.out, getD_of HY.out, HF.out]
              · exact HH.out i (by omega)
            · exact grown_set5 hW9.out
      · have HF := hid hf
        clear hf
        go_cut [7, 8] (fun s7 s8 wx => CutG (∃ bb : Nat, s7 = .pointer (some ⟨bb, 0, none⟩) ∧ s8 = .bool false ∧ Hid (Bx wx bb 99 #[.int .i64 z5.a, .int .i64 z5.b, .int .i64 z5.c, .int .i64 z5.d, .int .i64 z5.e]) ∧ W.heap.size ≤ bb) (Below W.heap.size W wx))
        case first =>
          have yp0 : W.drew.cell? ⟨g, k * 5 + j * 5, none⟩ = some (.int .i64 x.a) := p0
          have yp1 : W.drew.cell? ⟨g, k * 5 + j * 5 + 1, none⟩ = some (.int .i64 x.b) := p1
          have yp2 : W.drew.cell? ⟨g, k * 5 + j * 5 + 2, none⟩ = some (.int .i64 x.c) := p2
          have yp3 : W.drew.cell? ⟨g, k * 5 + j * 5 + 3, none⟩ = some (.int .i64 x.d) := p3
          have yp4 : W.drew.cell? ⟨g, k * 5 + j * 5 + 4, none⟩ = some (.int .i64 x.e) := p4
          have yd0 : W.drew.cell? ⟨wr.heap.size, 0, none⟩ = some (.int .i64 y.a) := d0
          have yd1 : W.drew.cell? ⟨wr.heap.size, 1, none⟩ = some (.int .i64 y.b) := d1
          have yd2 : W.drew.cell? ⟨wr.heap.size, 2, none⟩ = some (.int .i64 y.c) := d2
          have yd3 : W.drew.cell? ⟨wr.heap.size, 3, none⟩ = some (.int .i64 y.d) := d3
          have yd4 : W.drew.cell? ⟨wr.heap.size, 4, none⟩ = some (.int .i64 y.e) := d4
          refine wp_region_x (fun w' => w'.cell? ⟨g, k * 5 + j * 5, none⟩ = some (.int .i64 x.a) ∧ w'.cell? ⟨g, k * 5 + j * 5 + 1, none⟩ = some (.int .i64 x.b) ∧ w'.cell? ⟨g, k * 5 + j * 5 + 2, none⟩ = some (.int .i64 x.c) ∧ w'.cell? ⟨g, k * 5 + j * 5 + 3, none⟩ = some (.int .i64 x.d) ∧ w'.cell? ⟨g, k * 5 + j * 5 + 4, none⟩ = some (.int .i64 x.e) ∧ w'.cell? ⟨wr.heap.size, 0, none⟩ = some (.int .i64 y.a) ∧ w'.cell? ⟨wr.heap.size, 1, none⟩ = some (.int .i64 y.b) ∧ w'.cell? ⟨wr.heap.size, 2, none⟩ = some (.int .i64 y.c) ∧ w'.cell? ⟨wr.heap.size, 3, none⟩ = some (.int .i64 y.d) ∧ w'.cell? ⟨wr.heap.size, 4, none⟩ = some (.int .i64 y.e)) 1000 (by kernel_rfl) ⟨yp0, yp1, yp2, yp3, yp4, yd0, yd1, yd2, yd3, yd4⟩ (fun hS0 => ?_)
          refine wpAnyX_take (i := 0) (oi := _) (v := ?_) rfl (by kernel_rfl) (by kernel_rfl) (by kernel_rfl) (by kernel_rfl) (fun _ _ _ h => h) (Or.inl ⟨by rfl, ?_⟩) hS0 ?_
          rotate_left 1
          · (intro w hSw; (try dsimp only at hSw); go_simp; (try with_reducible rfl))
          try simp only [Act.put, List.setIfInBounds_toArray, List.set_cons_zero, List.set_cons_succ]
          refine wpAnyX_take (i := 1) (oi := _) (v := ?_) rfl (by kernel_rfl) (by kernel_rfl) (by kernel_rfl) (by kernel_rfl) (fun _ _ _ h => h) (Or.inl ⟨by rfl, ?_⟩) hS0 ?_
          rotate_left 1
          · (intro w hSw; (try dsimp only at hSw); go_simp; (try with_reducible rfl))
          try simp only [Act.put, List.setIfInBounds_toArray, List.set_cons_zero, List.set_cons_succ]
          refine wpAnyX_take (i := 2) (oi := _) (v := ?_) rfl (by kernel_rfl) (by kernel_rfl) (by kernel_rfl) (by kernel_rfl) (fun _ _ _ h => h) (Or.inl ⟨by rfl, ?_⟩) hS0 ?_
          rotate_left 1
          · (intro w hSw; (try dsimp only at hSw); go_simp; (try with_reducible rfl))
          try simp only [Act.put, List.setIfInBounds_toArray, List.set_cons_zero, List.set_cons_succ]
          refine wpAnyX_take (i := 3) (oi := _) (v := ?_) rfl (by kernel_rfl) (by kernel_rfl) (by kernel_rfl) (by kernel_rfl) (fun _ _ _ h => h) (Or.inl ⟨by rfl, ?_⟩) hS0 ?_
          rotate_left 1
          · (intro w hSw; (try dsimp only at hSw); go_simp; (try with_reducible rfl))
          try simp only [Act.put, List.setIfInBounds_toArray, List.set_cons_zero, List.set_cons_succ]
          refine wpAnyX_take (i := 4) (oi := _) (v := ?_) rfl (by kernel_rfl) (by kernel_rfl) (by kernel_rfl) (by kernel_rfl) (fun _ _ _ h => h) (Or.inl ⟨by rfl, ?_⟩) hS0 ?_
          rotate_left 1
          · (intro w hSw; (try dsimp only at hSw); go_simp; (try with_reducible rfl))
          try simp only [Act.put, List.setIfInBounds_toArray, List.set_cons_zero, List.set_cons_succ]
          refine wpAnyX_two (i := 5) (j := 9) (oi := _) (oj := _) rfl rfl (by kernel_rfl) (fun K hK => ?_) (fun K hK => ?_)
          · go_simp
            refine (iadd_f (x := x) (y := y) HKx.out HKy.out HF.out _).mono ?_
            rintro ee w8 ⟨rfl, hb8⟩
            have hz8 := hb8.size
            (try simp only [World.size_drew, World.size_alloc] at hz8)
            refine hK.out _ _ (fun _ => ?_) (fun hS1 => ?_)
            · exact ⟨kc hb8 (hS0.1), kc hb8 (hS0.2.1), kc hb8 (hS0.2.2.1), kc hb8 (hS0.2.2.2.1), kc hb8 (hS0.2.2.2.2.1), kc hb8 (hS0.2.2.2.2.2.1), kc hb8 (hS0.2.2.2.2.2.2.1), kc hb8 (hS0.2.2.2.2.2.2.2.1), kc hb8 (hS0.2.2.2.2.2.2.2.2.1), kc hb8 (hS0.2.2.2.2.2.2.2.2.2)⟩
            clear hK K
            have hS1 := hS1 (by decide)
            try simp only [Act.put, List.setIfInBounds_toArray, List.set_cons_zero, List.set_cons_succ]
            refine wpAnyX_take (i := 6) (oi := _) (v := ?_) rfl (by kernel_rfl) (by kernel_rfl) (by kernel_rfl) (by kernel_rfl) (fun _ _ _ h => h) (Or.inl ⟨by rfl, ?_⟩) hS1 ?_
            rotate_left 1
            · (intro w hSw; (try dsimp only at hSw); go_simp; (try with_reducible rfl))
            try simp only [Act.put, List.setIfInBounds_toArray, List.set_cons_zero, List.set_cons_succ]
            refine wpAnyX_take (i := 7) (oi := _) (v := ?_) rfl (by kernel_rfl) (by kernel_rfl) (by kernel_rfl) (by kernel_rfl) (fun _ _ _ h => h) (Or.inl ⟨by rfl, ?_⟩) hS1 ?_
            rotate_left 1
            · (intro w hSw; (try dsimp only at hSw); go_simp; (try with_reducible rfl))
            try simp only [Act.put, List.setIfInBounds_toArray, List.set_cons_zero, List.set_cons_succ]
            refine wpAnyX_take (i := 8) (oi := _) (v := ?_) rfl (by kernel_rfl) (by kernel_rfl) (by kernel_rfl) (by kernel_rfl) (fun _ _ _ h => h) (Or.inl ⟨by rfl, ?_⟩) hS1 ?_
            rotate_left 1
            · (intro w hSw; (try dsimp only at hSw); go_simp; (try with_reducible rfl))
            try simp only [Act.put, List.setIfInBounds_toArray, List.set_cons_zero, List.set_cons_succ]
            refine wpAnyX_one (i := 9) (o := _) rfl (by kernel_rfl) (fun K hK => ?_)
            go_simp
            refine hK.out _ _ (fun _ => ?_) (fun hS2 => ?_)
            · first | exact ⟨kal (hS1.1), kal (hS1.2.1), kal (hS1.2.2.1), kal (hS1.2.2.2.1), kal (hS1.2.2.2.2.1), kal (hS1.2.2.2.2.2.1), kal (hS1.2.2.2.2.2.2.1), kal (hS1.2.2.2.2.2.2.2.1), kal (hS1.2.2.2.2.2.2.2.2.1), kal (hS1.2.2.2.2.2.2.2.2.2)⟩ | exact ⟨kald (hS1.1), kald (hS1.2.1), kald (hS1.2.2.1), kald (hS1.2.2.2.1), kald (hS1.2.2.2.2.1), kald (hS1.2.2.2.2.2.1), kald (hS1.2.2.2.2.2.2.1), kald (hS1.2.2.2.2.2.2.2.1), kald (hS1.2.2.2.2.2.2.2.2.1), kald (hS1.2.2.2.2.2.2.2.2.2)⟩
            clear hK K
            have hS2 := hS2 (by decide)
            try simp only [Act.put, List.setIfInBounds_toArray, List.set_cons_zero, List.set_cons_succ]
            refine wpAnyX_one (i := 10) (o := _) rfl (by kernel_rfl) (fun K hK => ?_)
            go_simp
            refine hK.out _ _ (fun _ => ?_) (fun hS3 => ?_)
            · first | exact ⟨kre (by omega) (hS2.1), kre (by omega) (hS2.2.1), kre (by omega) (hS2.2.2.1), kre (by omega) (hS2.2.2.2.1), kre (by omega) (hS2.2.2.2.2.1), kre (by omega) (hS2.2.2.2.2.2.1), kre (by omega) (hS2.2.2.2.2.2.2.1), kre (by omega) (hS2.2.2.2.2.2.2.2.1), kre (by omega) (hS2.2.2.2.2.2.2.2.2.1), kre (by omega) (hS2.2.2.2.2.2.2.2.2.2)⟩ | exact ⟨kal (hS2.1), kal (hS2.2.1), kal (hS2.2.2.1), kal (hS2.2.2.2.1), kal (hS2.2.2.2.2.1), kal (hS2.2.2.2.2.2.1), kal (hS2.2.2.2.2.2.2.1), kal (hS2.2.2.2.2.2.2.2.1), kal (hS2.2.2.2.2.2.2.2.2.1), kal (hS2.2.2.2.2.2.2.2.2.2)⟩
            clear hK K
            have hS3 := hS3 (by decide)
            try simp only [Act.put, List.setIfInBounds_toArray, List.set_cons_zero, List.set_cons_succ]
            refine wpAnyX_take (i := 11) (oi := _) (v := ?_) rfl (by kernel_rfl) (by kernel_rfl) (by kernel_rfl) (by kernel_rfl) (fun _ _ _ h => h) (Or.inl ⟨by rfl, ?_⟩) hS3 ?_
            rotate_left 1
            · (intro w hSw; (try dsimp only at hSw); go_simp; (try with_reducible rfl))
            change wpAnyX _ _ _ _ _ _ _ _ (Act.put _ (some 8) _) _
            try simp only [Act.put, List.setIfInBounds_toArray, List.set_cons_zero, List.set_cons_succ]
            refine wpAnyX_done (by kernel_rfl) ?_ _
            go_wp2_with fail
            go_meet
            refine ⟨⟨_, rfl, rfl, ?_, ?_⟩, ?_⟩
            · show Bx _ _ _ _
              first | exact Bx.new rfl | exact ((((QB.set rfl).set rfl).set rfl).set rfl).set rfl
            · first | exact Nat.le_refl _ | omega
            · (repeat' (first | (with_reducible exact Below.refl _ _) | (with_reducible assumption) | (with_reducible refine Below.alloc ?_ ?_ _) | (with_reducible refine Below.drew ?_) | (with_reducible refine below_drewN ?_ _) | (with_reducible refine Below.setCell ?_ ?_ _) | (with_reducible refine chain ?_ (by assumption) ?_) | omega | (simp; done) | (simp; omega)))
          · go_simp
            refine hK.out _ _ (fun _ => ?_) (fun hS1 => ?_)
            · first | exact ⟨kal (hS0.1), kal (hS0.2.1), kal (hS0.2.2.1), kal (hS0.2.2.2.1), kal (hS0.2.2.2.2.1), kal (hS0.2.2.2.2.2.1), kal (hS0.2.2.2.2.2.2.1), kal (hS0.2.2.2.2.2.2.2.1), kal (hS0.2.2.2.2.2.2.2.2.1), kal (hS0.2.2.2.2.2.2.2.2.2)⟩ | exact ⟨kald (hS0.1), kald (hS0.2.1), kald (hS0.2.2.1), kald (hS0.2.2.2.1), kald (hS0.2.2.2.2.1), kald (hS0.2.2.2.2.2.1), kald (hS0.2.2.2.2.2.2.1), kald (hS0.2.2.2.2.2.2.2.1), kald (hS0.2.2.2.2.2.2.2.2.1), kald (hS0.2.2.2.2.2.2.2.2.2)⟩
            clear hK K
            have hS1 := hS1 (by decide)
            try simp only [Act.put, List.setIfInBounds_toArray, List.set_cons_zero, List.set_cons_succ]
            refine wpAnyX_one (i := 5) (o := _) rfl (by kernel_rfl) (fun K hK => ?_)
            go_simp
            refine (iadd_f (x := x) (y := y) HKx.out HKy.out HF.out _).mono ?_
            rintro ee w8 ⟨rfl, hb8⟩
            have hz8 := hb8.size
            (try simp only [World.size_drew, World.size_alloc] at hz8)
            refine hK.out _ _ (fun _ => ?_) (fun hS2 => ?_)
            · exact ⟨kc hb8 (hS1.1), kc hb8 (hS1.2.1), kc hb8 (hS1.2.2.1), kc hb8 (hS1.2.2.2.1), kc hb8 (hS1.2.2.2.2.1), kc hb8 (hS1.2.2.2.2.2.1), kc hb8 (hS1.2.2.2.2.2.2.1), kc hb8 (hS1.2.2.2.2.2.2.2.1), kc hb8 (hS1.2.2.2.2.2.2.2.2.1), kc hb8 (hS1.2.2.2.2.2.2.2.2.2)⟩
            clear hK K
            have hS2 := hS2 (by decide)
            try simp only [Act.put, List.setIfInBounds_toArray, List.set_cons_zero, List.set_cons_succ]
            refine wpAnyX_take (i := 6) (oi := _) (v := ?_) rfl (by kernel_rfl) (by kernel_rfl) (by kernel_rfl) (by kernel_rfl) (fun _ _ _ h => h) (Or.inl ⟨by rfl, ?_⟩) hS2 ?_
            rotate_left 1
            · (intro w hSw; (try dsimp only at hSw); go_simp; (try with_reducible rfl))
            try simp only [Act.put, List.setIfInBounds_toArray, List.set_cons_zero, List.set_cons_succ]
            refine wpAnyX_take (i := 7) (oi := _) (v := ?_) rfl (by kernel_rfl) (by kernel_rfl) (by kernel_rfl) (by kernel_rfl) (fun _ _ _ h => h) (Or.inl ⟨by rfl, ?_⟩) hS2 ?_
            rotate_left 1
            · (intro w hSw; (try dsimp only at hSw); go_simp; (try with_reducible rfl))
            try simp only [Act.put, List.setIfInBounds_toArray, List.set_cons_zero, List.set_cons_succ]
            refine wpAnyX_take (i := 8) (oi := _) (v := ?_) rfl (by kernel_rfl) (by kernel_rfl) (by kernel_rfl) (by kernel_rfl) (fun _ _ _ h => h) (Or.inl ⟨by rfl, ?_⟩) hS2 ?_
            rotate_left 1
            · (intro w hSw; (try dsimp only at hSw); go_simp; (try with_reducible rfl))
            try simp only [Act.put, List.setIfInBounds_toArray, List.set_cons_zero, List.set_cons_succ]
            refine wpAnyX_one (i := 10) (o := _) rfl (by kernel_rfl) (fun K hK => ?_)
            have QB : Bx w8 W.heap.size 99 #[.int .i64 0, .int .i64 0, .int .i64 0, .int .i64 0, .int .i64 0] := by
              have QB0 : Bx (W.alloc (.cells #[.int .i64 0, .int .i64 0, .int .i64 0, .int .i64 0, .int .i64 0] 99)) W.heap.size 99 #[.int .i64 0, .int .i64 0, .int .i64 0, .int .i64 0, .int .i64 0] := Bx.new rfl
              exact (hb8.block _ (by (try simp only [World.size_drew, World.size_alloc]); omega)).trans QB0
            have n0 := QB.c 0 rfl
            have n1 := QB.c 1 rfl
            have n2 := QB.c 2 rfl
            have n3 := QB.c 3 rfl
            have n4 := QB.c 4 rfl
            have nf := QB.f
            go_simp
            refine hK.out _ _ (fun _ => ?_) (fun hS3 => ?_)
            · exact ⟨kst5 (by omega) (hS2.1), kst5 (by omega) (hS2.2.1), kst5 (by omega) (hS2.2.2.1), kst5 (by omega) (hS2.2.2.2.1), kst5 (by omega) (hS2.2.2.2.2.1), kst5 (by omega) (hS2.2.2.2.2.2.1), kst5 (by omega) (hS2.2.2.2.2.2.2.1), kst5 (by omega) (hS2.2.2.2.2.2.2.2.1), kst5 (by omega) (hS2.2.2.2.2.2.2.2.2.1), kst5 (by omega) (hS2.2.2.2.2.2.2.2.2.2)⟩
            clear hK K
            have hS3 := hS3 (by decide)
            try simp only [Act.put, List.setIfInBounds_toArray, List.set_cons_zero, List.set_cons_succ]
            refine wpAnyX_take (i := 11) (oi := _) (v := ?_) rfl (by kernel_rfl) (by kernel_rfl) (by kernel_rfl) (by kernel_rfl) (fun _ _ _ h => h) (Or.inl ⟨by rfl, ?_⟩) hS3 ?_
            rotate_left 1
            · (intro w hSw; (try dsimp only at hSw); go_simp; (try with_reducible rfl))
            change wpAnyX _ _ _ _ _ _ _ _ (Act.put _ (some 8) _) _
            try simp only [Act.put, List.setIfInBounds_toArray, List.set_cons_zero, List.set_cons_succ]
            refine wpAnyX_done (by kernel_rfl) ?_ _
            go_wp2_with fail
            go_meet
            refine ⟨⟨_, rfl, rfl, ?_, ?_⟩, ?_⟩
            · show Bx _ _ _ _
              first | exact Bx.new rfl | exact ((((QB.set rfl).set rfl).set rfl).set rfl).set rfl
            · first | exact Nat.le_refl _ | omega
            · (repeat' (first | (with_reducible exact Below.refl _ _) | (with_reducible assumption) | (with_reducible refine Below.alloc ?_ ?_ _) | (with_reducible refine Below.drew ?_) | (with_reducible refine below_drewN ?_ _) | (with_reducible refine Below.setCell ?_ ?_ _) | (with_reducible refine chain ?_ (by assumption) ?_) | omega | (simp; done) | (simp; omega)))
        case rest =>
          obtain ⟨w9, rfl⟩ : ∃ w9, w9 = wc := ⟨_, rfl⟩
          obtain ⟨⟨bb, rfl, rfl, XS, hbb⟩, hb9⟩ := hcut
          have hz9 := hb9.size
          have lbb := XS.out.lt
          have e0 := XS.out.c 0 rfl
          have e1 := XS.out.c 1 rfl
          have e2 := XS.out.c 2 rfl
          have e3 := XS.out.c 3 rfl
          have e4 := XS.out.c 4 rfl
          have HB9 := hid (HBW.out.mono hb9)
          have hW9 : Hid (w.grownBy w9 (some g)) := grown_trans HW.out (grown_below (chain hbW hb9 (by omega)))
          go_wp2_with (fail)
          go_ret
          refine ⟨fun _ => rfl, fun h => ?_, hW9.out⟩
          have : addH f ys k j = true := by unfold addH; rw [← HXE.out, getD_of HY.out, HF.out]
          rw [anyB_of hlt this] at h; cases h
end Go.Proofs.Ytofclfgaekjonaa
namespace Go.Proofs.Ytofclfgaekjonaa
open Go.RowKit RM
set_option linter.unusedVariables false
set_option linter.unusedSimpArgs false
attribute [local irreducible] World.setCell

def TR (w w' : World) (ee : Ending) (p : D5 × Bool) : Prop :=
  (p.2 = true → ee = .returned (dt 0 0 0 0 0 false)) ∧ (p.2 = false → ee = .returned (dt p.1.a p.1.b p.1.c p.1.d p.1.e true)) ∧ Below w.heap.size w w'
theorem TR.t {w w' : World} {p : D5 × Bool} {s : D5} (h : p = (s, false)) (hb : Below w.heap.size w w') : TR w w' (.returned (dt s.a s.b s.c s.d s.e true)) p := by
  subst h; exact ⟨fun h => (by cases h), fun _ => rfl, hb⟩
theorem TR.f {w w' : World} {p : D5 × Bool} (h : p.2 = true) (hb : Below w.heap.size w w') : TR w w' (.returned (dt 0 0 0 0 0 false)) p :=
  ⟨fun _ => rfl, fun k => (by rw [h] at k; cases k), hb⟩
theorem Bx.set5 {W : World} {b : Nat} {t : TypeId} {x : D5} (y : D5) (h : Bx W b t #[.int .i64 x.a, .int .i64 x.b, .int .i64 x.c, .int .i64 x.d, .int .i64 x.e]) : Bx (Go.Proofs.Ytofclfgaekjonaa.set5 W b 0 y) b t #[.int .i64 y.a, .int .i64 y.b, .int .i64 y.c, .int .i64 y.d, .int .i64 y.e] :=
  ((((h.set (i := 0) (u := .int .i64 y.a) rfl).set (i := 0 + 1) (u := .int .i64 y.b) rfl).set (i := 0 + 2) (u := .int .i64 y.c) rfl).set (i := 0 + 3) (u := .int .i64 y.d) rfl).set (i := 0 + 4) (u := .int .i64 y.e) rfl
theorem Bx.far5 {W : World} {b g o : Nat} {t : TypeId} {cs : Array Value} (y : D5) (h : Bx W b t cs) (hp : b ≠ g) : Bx (Go.Proofs.Ytofclfgaekjonaa.set5 W g o y) b t cs :=
  (set5_far hp).trans h

end Go.Proofs.Ytofclfgaekjonaa
