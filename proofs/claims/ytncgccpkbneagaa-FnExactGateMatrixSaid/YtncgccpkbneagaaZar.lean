/- ARow, AddS3, AddI3, TrS -/
import Derived.Test.YtncgccpkbneagaaZcol
import Derived.Test.YtncgccpkbneagaaZtab
import Derived.Test.YtncgccpkbneagaaMxE
namespace Go.Proofs.Ytncgccpkbneagaa
open Go.RowKit RM
set_option linter.unusedVariables false
set_option linter.unusedSimpArgs false
attribute [local irreducible] World.setCell

/-- a row of sums: what has been added so far -/
def addP (f : Nat → D5) (ys : List D5) (k j q : Nat) : D5 := if k ≤ q ∧ q < k + j then (addS false (f q) (ys.getD (q - k) z5)).1 else f q
def addH (f : Nat → D5) (ys : List D5) (k i : Nat) : Bool := (addS false (f (k + i)) (ys.getD i z5)).2
theorem addP_0 (f : Nat → D5) (ys : List D5) (k N : Nat) : tab N (addP f ys k 0) = tab N f := tab_congr (fun q _ => by unfold addP; rw [if_neg (by omega)])
theorem addP_at (f : Nat → D5) (ys : List D5) (k j : Nat) : addP f ys k j (k + j) = f (k + j) := by unfold addP; rw [if_neg (by omega)]
theorem addP_set {f : Nat → D5} {ys : List D5} {k j N : Nat} {y : D5} (h : k + j < N) (hy : ys[j]? = some y) : (tab N (addP f ys k j)).set (k + j) (addS false (f (k + j)) y).1 = tab N (addP f ys k (j + 1)) := by
  rw [tab_set h]
  refine tab_congr (fun q _ => ?_)
  unfold addP
  by_cases e : q = k + j
  · subst e
    rw [if_pos rfl, if_pos (by omega), Nat.add_sub_cancel_left, getD_of hy]
  · rw [if_neg e]
    by_cases e2 : k ≤ q ∧ q < k + j
    · rw [if_pos e2, if_pos (by omega)]
    · rw [if_neg e2, if_neg (by omega)]
/-- what a row's sum answers -/
def AR (w w' : World) (ee : Ending) (g : Nat) (xs : List D5) (bad : Bool) : Prop :=
  (bad = true → ee = .returned (.bool false)) ∧ (bad = false → ee = .returned (.bool true) ∧ Bk w' g 37 xs) ∧ w.grownBy w' (some g)
theorem z5_off {x : D5} (h0 : x.a = 0) (h1 : x.b = 0) (h2 : x.c = 0) (h3 : x.d = 0) (h4 : x.e = 0) : x = z5 := by
  obtain ⟨a, b, c, d, e⟩ := x
  dsimp only at h0 h1 h2 h3 h4
  subst h0 h1 h2 h3 h4; rfl
theorem Rd.cell_at {W : World} {A : Option Addr} {xs : List D5} (h : Rd W A xs) {q : Nat} {x : D5} (hx : xs[q]? = some x) : ∃ g o, A = some ⟨g, o, none⟩ ∧ Cx W g (o + q * 5) x := h q x hx

set_option maxRecDepth 100000 in
set_option maxHeartbeats 16000000 in
theorem arow {g k m cs c' N : Nat} {A : Option Addr} {f : Nat → D5} {ys : List D5} {w : World} (hG : Bk w g 37 (tab N f)) (hA : Rd w A ys) (hm : ys.length = m) (hk : k + m ≤ N) (hN : N ≤ 1024) (hcs : m ≤ cs) (hcs2 : cs ≤ 1048576) (hc : m ≤ c') (hc2 : c' ≤ 1048576) (hne : ∀ a, A = some a → a.block ≠ g) (ho1 : ∀ i, i < m → (f (k + i)).ok = true) (ho2 : allB ys = true) :
    Calls Try.prog 73 #[.slice (some ⟨g, k * 5, none⟩) m cs, .slice A m c'] w fun ee w' => AR w w' ee g (tab N (addP f ys k m)) (anyB m (addH f ys k)) := by
  have HG := hid hG
  have HA := hid hA
  have HM := hid hm
  have HNE := hid hne
  have HO1 := hid ho1
  have HO2 := hid ho2
  clear hG hA hm hne ho1 ho2
  go_enter Try.func73, Try.ntmps73
  go_wp2_with (fail)
  go_loopg [11] m (fun q s1 wr => ∃ j : Nat, j + q = m ∧ s1 = .int .i64 (j : Int) ∧ Hid (Bk wr g 37 (tab N (addP f ys k j))) ∧ Hid (∀ i, i < j → addH f ys k i = false) ∧ Hid (w.grownBy wr (some g)))
  case atStart => exact ⟨0, by omega, rfl, by show Bk _ _ _ _; rw [addP_0]; exact HG.out, fun i hi => absurd hi (Nat.not_lt_zero i), grown_below (Below.refl _ _)⟩
  case round =>
    obtain ⟨j, hj, rfl, HB, HH, HW⟩ := hrel
    have lg := HB.out.lt
    have hzw := HW.out.size
    cases gk with
    | zero =>
      obtain rfl : j = m := by omega
      go_wp2_with (fail)
      go_ret
      refine ⟨fun h => ?_, fun _ => ⟨rfl, HB.out⟩, HW.out⟩
      rw [anyB_f HH.out] at h; cases h
    | succ m2 =>
      have hlt : j < m := by omega
      have j1 : (j : Int) < (m : Int) := by omega
      obtain ⟨y, hy⟩ : ∃ y, ys[j]? = some y := ⟨_, List.getElem?_eq_getElem (by rw [HM.out]; exact hlt)⟩
      have HKy := hid (all_get HO2.out hy)
      have HKx0 := HO1.out j hlt
      have hG0 := HB.out.cx (k := k + j) (tab_get (by omega))
      rw [addP_at] at hG0
      obtain ⟨x, hxe⟩ : ∃ x, x = f (k + j) := ⟨_, rfl⟩
      rw [← hxe] at hG0 HKx0
      have HXE := hid hxe
      have HKx := hid HKx0
      have HY := hid hy
      obtain ⟨p0, p1, p2, p3, p4⟩ := hG0
      simp only [Nat.add_mul] at p0 p1 p2 p3 p4
      obtain ⟨g', o', rfl, hC⟩ := HA.out.cell_at hy
      have hgw := hC.lt
      have hgn : g' ≠ g := HNE.out _ rfl
      obtain ⟨q0, q1, q2, q3, q4⟩ := hC.at_ (HW.out.block g' hgw (fun e => hgn (by simpa using e)))
      clear hC hxe hy HKx0
      go_upto_region 4 with (fail)
      obtain ⟨W, hW⟩ : ∃ W : World, W = wr.alloc (.cells #[.int .i64 y.a, .int .i64 y.b, .int .i64 y.c, .int .i64 y.d, .int .i64 y.e] 37) := ⟨_, rfl⟩
      have hbW : Below wr.heap.size wr W := by rw [hW]; exact (Below.refl _ _).alloc (Nat.le_refl _) _
      have XW : Bx W wr.heap.size 37 #[.int .i64 y.a, .int .i64 y.b, .int .i64 y.c, .int .i64 y.d, .int .i64 y.e] := by rw [hW]; exact Bx.new rfl
      have hzW : W.heap.size = wr.heap.size + 1 := by rw [hW]; simp
      have hzW1 : wr.heap.size < W.heap.size := by omega
      have hzW2 : W.heap.size ≤ wr.heap.size + 1 := by omega
      rw [← hW]
      clear hW hzW
      have HBW := hid (HB.out.mono hbW)
      have d0 := XW.c 0 rfl
      have d1 := XW.c 1 rfl
      have d2 := XW.c 2 rfl
      have d3 := XW.c 3 rfl
      have d4 := XW.c 4 rfl
      have p0 := kc hbW p0
      have p1 := kc hbW p1
      have p2 := kc hbW p2
      have p3 := kc hbW p3
      have p4 := kc hbW p4
      clear XW
      by_cases hx0 : x = z5
      · have he : addS false x y = (y, false) := by rw [hx0]; exact addS_zl HKy.out
        have hset := addP_set (f := f) (ys := ys) (k := k) (j := j) (N := N) (by omega) HY.out
        rw [← HXE.out, he] at hset
        have HSET := hid hset
        have HE := hid he
        have z0 : W.cell? ⟨g, k * 5 + j * 5, none⟩ = some (.int .i64 0) := by rw [p0, hx0]; rfl
        have z1 : W.cell? ⟨g, k * 5 + j * 5 + 1, none⟩ = some (.int .i64 0) := by rw [p1, hx0]; rfl
        have z2 : W.cell? ⟨g, k * 5 + j * 5 + 2, none⟩ = some (.int .i64 0) := by rw [p2, hx0]; rfl
        have z3 : W.cell? ⟨g, k * 5 + j * 5 + 3, none⟩ = some (.int .i64 0) := by rw [p3, hx0]; rfl
        have z4 : W.cell? ⟨g, k * 5 + j * 5 + 4, none⟩ = some (.int .i64 0) := by rw [p4, hx0]; rfl
        have HWW : Hid (w.grownBy W (some g)) := grown_trans HW.out (grown_below hbW)
        have fr9 := HBW.out.fr
        clear p0 p1 p2 p3 p4 hx0 he hset hbW
        go_wp2_with (fail)
        go_roundg m2
        case measure => omega
        case rel =>
          refine ⟨j + 1, by omega, by go_num, ?_, ?_, ?_⟩
          · show Bk _ _ _ _
            have h1 := HBW.out.set (k := k + j) y (by rw [tab_len]; omega)
            rw [show (tab N (addP f ys k j)).set (k + j) y = _ from HSET.out, Nat.add_mul] at h1
            exact h1
          · show ∀ i, i < j + 1 → _
            intro i hi
            by_cases e : i = j
            · subst e; unfold addH; rw [← HXE.out, getD_of HY.out, HE.out]
            · exact HH.out i (by omega)
          · exact grown_set5 HWW.out
      have HX0 := hid hx0
      clear hx0
      go_cut [21] (fun s21 wx => s21 = .bool false ∧ wx = W)
      case first =>
        go_wp2_with (fail)
        all_goals go_meet
        all_goals first | exact ⟨rfl, rfl⟩ | exact absurd (z5_off (by assumption) (by assumption) (by assumption) (by assumption) (by assumption)) HX0.out
      obtain ⟨rfl, hq0⟩ := hcut
      have hq1 := hq0.symm
      subst hq1
      go_wp2_with (fail)
      cases hf : (addS false x y).2
      · have HF := hid hf
        clear hf
        go_cut [7, 8] (fun s7 s8 wx => CutG (∃ bb : Nat, s7 = .pointer (some ⟨bb, 0, none⟩) ∧ s8 = .bool true ∧ Hid (Bx wx bb 37 #[.int .i64 (addS false x y).1.a, .int .i64 (addS false x y).1.b, .int .i64 (addS false x y).1.c, .int .i64 (addS false x y).1.d, .int .i64 (addS false x y).1.e]) ∧ W.heap.size ≤ bb) (Below W.heap.size W wx))
        case first =>
          have yp0 : W.drew.cell? ⟨g, k * 5 + j * 5, none⟩ = some (.int .i64 x.a) := p0
          have yp1 : W.drew.cell? ⟨g, k * 5 + j * 5 + 1, none⟩ = some (.int .i64 x.b) := p1
          have yp2 : W.drew.cell? ⟨g, k * 5 + j * 5 + 2, none⟩ = some (.int .i64 x.c) := p2
          have yp3 : W.drew.cell? ⟨g, k * 5 + j * 5 + 3, none⟩ = some (.int .i64 x.d) := p3
          have yp4 : W.drew.cell? ⟨g, k * 5 + j * 5 + 4, none⟩ = some (.int .i64 x.e) := p4
          have yd0 : W.drew.cell? ⟨wr.heap.size, 0, none⟩ = some (.int .i64 y.a) := d0
          have yd1 : W.drew.cell? ⟨wr.heap.size, 1, none⟩ = some (.int .i64 y.b) := d1
          have yd2 : W.drew.cell? ⟨wr.heap.size, 2, none⟩ = some (.int .i64 y.c) := d2
          have yd3 : W.drew.cell? ⟨wr.heap.size, 3, none⟩ = some (.int .i64 y.d) := d3
          have yd4 : W.drew.cell? ⟨wr.heap.size, 4, none⟩ = some (.int .i64 y.e) := d4
          refine wp_region_x (fun w' => w'.cell? ⟨g, k * 5 + j * 5, none⟩ = some (.int .i64 x.a) ∧ w'.cell? ⟨g, k * 5 + j * 5 + 1, none⟩ = some (.int .i64 x.b) ∧ w'.cell? ⟨g, k * 5 + j * 5 + 2, none⟩ = some (.int .i64 x.c) ∧ w'.cell? ⟨g, k * 5 + j * 5 + 3, none⟩ = some (.int .i64 x.d) ∧ w'.cell? ⟨g, k * 5 + j * 5 + 4, none⟩ = some (.int .i64 x.e) ∧ w'.cell? ⟨wr.heap.size, 0, none⟩ = some (.int .i64 y.a) ∧ w'.cell? ⟨wr.heap.size, 1, none⟩ = some (.int .i64 y.b) ∧ w'.cell? ⟨wr.heap.size, 2, none⟩ = some (.int .i64 y.c) ∧ w'.cell? ⟨wr.heap.size, 3, none⟩ = some (.int .i64 y.d) ∧ w'.cell? ⟨wr.heap.size, 4, none⟩ = some (.int .i64 y.e)) 1000 (by kernel_rfl) ⟨yp0, yp1, yp2, yp3, yp4, yd0, yd1, yd2, yd3, yd4⟩ (fun hS0 => ?_)
          refine wpAnyX_take (i := 0) (oi := _) (v := ?_) rfl (by kernel_rfl) (by kernel_rfl) (by kernel_rfl) (by kernel_rfl) (fun _ _ _ h => h) (Or.inl ⟨by rfl, ?_⟩) hS0 ?_
          rotate_left 1
          · (intro w hSw; (try dsimp only at hSw); go_simp; (try with_reducible rfl))
          try simp only [Act.put, List.setIfInBounds_toArray, List.set_cons_zero, List.set_cons_succ]
          refine wpAnyX_take (i := 1) (oi := _) (v := ?_) rfl (by kernel_rfl) (by kernel_rfl) (by kernel_rfl) (by kernel_rfl) (fun _ _ _ h => h) (Or.inl ⟨by rfl, ?_⟩) hS0 ?_
          rotate_left 1
          · (intro w hSw; (try dsimp only at hSw); go_simp; (try with_reducible rfl))
          try simp only [Act.put, List.setIfInBounds_toArray, List.set_cons_zero, List.set_cons_succ]
          refine wpAnyX_take (i := 2) (oi := _) (v := ?_) rfl (by kernel_rfl) (by kernel_rfl) (by kernel_rfl) (by kernel_rfl) (fun _ _ _ h => h) (Or.inl ⟨by rfl, ?_⟩) hS0 ?_
          rotate_left 1
          · (intro w hSw; (try dsimp only at hSw); go_simp; (try with_reducible rfl))
          try simp only [Act.put, List.setIfInBounds_toArray, List.set_cons_zero, List.set_cons_succ]
          refine wpAnyX_take (i := 3) (oi := _) (v := ?_) rfl (by kernel_rfl) (by kernel_rfl) (by kernel_rfl) (by kernel_rfl) (fun _ _ _ h => h) (Or.inl ⟨by rfl, ?_⟩) hS0 ?_
          rotate_left 1
          · (intro w hSw; (try dsimp only at hSw); go_simp; (try with_reducible rfl))
          try simp only [Act.put, List.setIfInBounds_toArray, List.set_cons_zero, List.set_cons_succ]
          refine wpAnyX_take (i := 4) (oi := _) (v := ?_) rfl (by kernel_rfl) (by kernel_rfl) (by kernel_rfl) (by kernel_rfl) (fun _ _ _ h => h) (Or.inl ⟨by rfl, ?_⟩) hS0 ?_
          rotate_left 1
          · (intro w hSw; (try dsimp only at hSw); go_simp; (try with_reducible rfl))
          try simp only [Act.put, List.setIfInBounds_toArray, List.set_cons_zero, List.set_cons_succ]
          refine wpAnyX_two (i := 5) (j := 9) (oi := _) (oj := _) rfl rfl (by kernel_rfl) (fun K hK => ?_) (fun K hK => ?_)
          · go_simp
            refine (iadd_t (x := x) (y := y) HKx.out HKy.out HF.out _).mono ?_
            rintro ee w8 ⟨rfl, hb8⟩
            have hz8 := hb8.size
            (try simp only [World.size_drew, World.size_alloc] at hz8)
            refine hK.out _ _ (fun _ => ?_) (fun hS1 => ?_)
            · exact ⟨kc hb8 (hS0.1), kc hb8 (hS0.2.1), kc hb8 (hS0.2.2.1), kc hb8 (hS0.2.2.2.1), kc hb8 (hS0.2.2.2.2.1), kc hb8 (hS0.2.2.2.2.2.1), kc hb8 (hS0.2.2.2.2.2.2.1), kc hb8 (hS0.2.2.2.2.2.2.2.1), kc hb8 (hS0.2.2.2.2.2.2.2.2.1), kc hb8 (hS0.2.2.2.2.2.2.2.2.2)⟩
            clear hK K
            have hS1 := hS1 (by decide)
            try simp only [Act.put, List.setIfInBounds_toArray, List.set_cons_zero, List.set_cons_succ]
            refine wpAnyX_take (i := 6) (oi := _) (v := ?_) rfl (by kernel_rfl) (by kernel_rfl) (by kernel_rfl) (by kernel_rfl) (fun _ _ _ h => h) (Or.inl ⟨by rfl, ?_⟩) hS1 ?_
            rotate_left 1
            · (intro w hSw; (try dsimp only at hSw); go_simp; (try with_reducible rfl))
            try simp only [Act.put, List.setIfInBounds_toArray, List.set_cons_zero, List.set_cons_succ]
            refine wpAnyX_take (i := 7) (oi := _) (v := ?_) rfl (by kernel_rfl) (by kernel_rfl) (by kernel_rfl) (by kernel_rfl) (fun _ _ _ h => h) (Or.inl ⟨by rfl, ?_⟩) hS1 ?_
            rotate_left 1
            · (intro w hSw; (try dsimp only at hSw); go_simp; (try with_reducible rfl))
            try simp only [Act.put, List.setIfInBounds_toArray, List.set_cons_zero, List.set_cons_succ]
            refine wpAnyX_take (i := 8) (oi := _) (v := ?_) rfl (by kernel_rfl) (by kernel_rfl) (by kernel_rfl) (by kernel_rfl) (fun _ _ _ h => h) (Or.inl ⟨by rfl, ?_⟩) hS1 ?_
            rotate_left 1
            · (intro w hSw; (try dsimp only at hSw); go_simp; (try with_reducible rfl))
            try simp only [Act.put, List.setIfInBounds_toArray, List.set_cons_zero, List.set_cons_succ]
            refine wpAnyX_one (i := 9) (o := _) rfl (by kernel_rfl) (fun K hK => ?_)
            go_simp
            refine hK.out _ _ (fun _ => ?_) (fun hS2 => ?_)
            · first | exact ⟨kal (hS1.1), kal (hS1.2.1), kal (hS1.2.2.1), kal (hS1.2.2.2.1), kal (hS1.2.2.2.2.1), kal (hS1.2.2.2.2.2.1), kal (hS1.2.2.2.2.2.2.1), kal (hS1.2.2.2.2.2.2.2.1), kal (hS1.2.2.2.2.2.2.2.2.1), kal (hS1.2.2.2.2.2.2.2.2.2)⟩ | exact ⟨kald (hS1.1), kald (hS1.2.1), kald (hS1.2.2.1), kald (hS1.2.2.2.1), kald (hS1.2.2.2.2.1), kald (hS1.2.2.2.2.2.1), kald (hS1.2.2.2.2.2.2.1), kald (hS1.2.2.2.2.2.2.2.1), kald (hS1.2.2.2.2.2.2.2.2.1), kald (hS1.2.2.2.2.2.2.2.2.2)⟩
            clear hK K
            have hS2 := hS2 (by decide)
            try simp only [Act.put, List.setIfInBounds_toArray, List.set_cons_zero, List.set_cons_succ]
            refine wpAnyX_one (i := 10) (o := _) rfl (by kernel_rfl) (fun K hK => ?_)
            go_simp
            refine hK.out _ _ (fun _ => ?_) (fun hS3 => ?_)
            · first | exact ⟨kre (by omega) (hS2.1), kre (by omega) (hS2.2.1), kre (by omega) (hS2.2.2.1), kre (by omega) (hS2.2.2.2.1), kre (by omega) (hS2.2.2.2.2.1), kre (by omega) (hS2.2.2.2.2.2.1), kre (by omega) (hS2.2.2.2.2.2.2.1), kre (by omega) (hS2.2.2.2.2.2.2.2.1), kre (by omega) (hS2.2.2.2.2.2.2.2.2.1), kre (by omega) (hS2.2.2.2.2.2.2.2.2.2)⟩ | exact ⟨kal (hS2.1), kal (hS2.2.1), kal (hS2.2.2.1), kal (hS2.2.2.2.1), kal (hS2.2.2.2.2.1), kal (hS2.2.2.2.2.2.1), kal (hS2.2.2.2.2.2.2.1), kal (hS2.2.2.2.2.2.2.2.1), kal (hS2.2.2.2.2.2.2.2.2.1), kal (hS2.2.2.2.2.2.2.2.2.2)⟩
            clear hK K
            have hS3 := hS3 (by decide)
            try simp only [Act.put, List.setIfInBounds_toArray, List.set_cons_zero, List.set_cons_succ]
            refine wpAnyX_take (i := 11) (oi := _) (v := ?_) rfl (by kernel_rfl) (by kernel_rfl) (by kernel_rfl) (by kernel_rfl) (fun _ _ _ h => h) (Or.inl ⟨by rfl, ?_⟩) hS3 ?_
            rotate_left 1
            · (intro w hSw; (try dsimp only at hSw); go_simp; (try with_reducible rfl))
            change wpAnyX _ _ _ _ _ _ _ _ (Act.put _ (some 8) _) _
            try simp only [Act.put, List.setIfInBounds_toArray, List.set_cons_zero, List.set_cons_succ]
            refine wpAnyX_done (by kernel_rfl) ?_ _
            go_wp2_with fail
            go_meet
            refine ⟨⟨_, rfl, rfl, ?_, ?_⟩, ?_⟩
            · show Bx _ _ _ _
              first | exact Bx.new rfl | exact ((((QB.set rfl).set rfl).set rfl).set rfl).set rfl
            · first | exact Nat.le_refl _ | omega
            · (repeat' (first | (with_reducible exact Below.refl _ _) | (with_reducible assumption) | (with_reducible refine Below.alloc ?_ ?_ _) | (with_reducible refine Below.drew ?_) | (with_reducible refine below_drewN ?_ _) | (with_reducible refine Below.setCell ?_ ?_ _) | (with_reducible refine chain ?_ (by assumption) ?_) | omega | (simp; done) | (simp; omega)))
          · go_simp
            refine hK.out _ _ (fun _ => ?_) (fun hS1 => ?_)
            · first | exact ⟨kal (hS0.1), kal (hS0.2.1), kal (hS0.2.2.1), kal (hS0.2.2.2.1), kal (hS0.2.2.2.2.1), kal (hS0.2.2.2.2.2.1), kal (hS0.2.2.2.2.2.2.1), kal (hS0.2.2.2.2.2.2.2.1), kal (hS0.2.2.2.2.2.2.2.2.1), kal (hS0.2.2.2.2.2.2.2.2.2)⟩ | exact ⟨kald (hS0.1), kald (hS0.2.1), kald (hS0.2.2.1), kald (hS0.2.2.2.1), kald (hS0.2.2.2.2.1), kald (hS0.2.2.2.2.2.1), kald (hS0.2.2.2.2.2.2.1), kald (hS0.2.2.2.2.2.2.2.1), kald (hS0.2.2.2.2.2.2.2.2.1), kald (hS0.2.2.2.2.2.2.2.2.2)⟩
            clear hK K
            have hS1 := hS1 (by decide)
            try simp only [Act.put, List.setIfInBounds_toArray, List.set_cons_zero, List.set_cons_succ]
            refine wpAnyX_one (i := 5) (o := _) rfl (by kernel_rfl) (fun K hK => ?_)
            go_simp
            refine (iadd_t (x := x) (y := y) HKx.out HKy.out HF.out _).mono ?_
            rintro ee w8 ⟨rfl, hb8⟩
            have hz8 := hb8.size
            (try simp only [World.size_drew, World.size_alloc] at hz8)
            refine hK.out _ _ (fun _ => ?_) (fun hS2 => ?_)
            · exact ⟨kc hb8 (hS1.1), kc hb8 (hS1.2.1), kc hb8 (hS1.2.2.1), kc hb8 (hS1.2.2.2.1), kc hb8 (hS1.2.2.2.2.1), kc hb8 (hS1.2.2.2.2.2.1), kc hb8 (hS1.2.2.2.2.2.2.1), kc hb8 (hS1.2.2.2.2.2.2.2.1), kc hb8 (hS1.2.2.2.2.2.2.2.2.1), kc hb8 (hS1.2.2.2.2.2.2.2.2.2)⟩
            clear hK K
            have hS2 := hS2 (by decide)
            try simp only [Act.put, List.setIfInBounds_toArray, List.set_cons_zero, List.set_cons_succ]
            refine wpAnyX_take (i := 6) (oi := _) (v := ?_) rfl (by kernel_rfl) (by kernel_rfl) (by kernel_rfl) (by kernel_rfl) (fun _ _ _ h => h) (Or.inl ⟨by rfl, ?_⟩) hS2 ?_
            rotate_left 1
            · (intro w hSw; (try dsimp only at hSw); go_simp; (try with_reducible rfl))
            try simp only [Act.put, List.setIfInBounds_toArray, List.set_cons_zero, List.set_cons_succ]
            refine wpAnyX_take (i := 7) (oi := _) (v := ?_) rfl (by kernel_rfl) (by kernel_rfl) (by kernel_rfl) (by kernel_rfl) (fun _ _ _ h => h) (Or.inl ⟨by rfl, ?_⟩) hS2 ?_
            rotate_left 1
            · (intro w hSw; (try dsimp only at hSw); go_simp; (try with_reducible rfl))
            try simp only [Act.put, List.setIfInBounds_toArray, List.set_cons_zero, List.set_cons_succ]
            refine wpAnyX_take (i := 8) (oi := _) (v := ?_) rfl (by kernel_rfl) (by kernel_rfl) (by kernel_rfl) (by kernel_rfl) (fun _ _ _ h => h) (Or.inl ⟨by rfl, ?_⟩) hS2 ?_
            rotate_left 1
            · (intro w hSw; (try dsimp only at hSw); go_simp; (try with_reducible rfl))
            try simp only [Act.put, List.setIfInBounds_toArray, List.set_cons_zero, List.set_cons_succ]
            refine wpAnyX_one (i := 10) (o := _) rfl (by kernel_rfl) (fun K hK => ?_)
            have QB : Bx w8 W.heap.size 37 #[.int .i64 0, .int .i64 0, .int .i64 0, .int .i64 0, .int .i64 0] := by
              have QB0 : Bx (W.alloc (.cells #[.int .i64 0, .int .i64 0, .int .i64 0, .int .i64 0, .int .i64 0] 37)) W.heap.size 37 #[.int .i64 0, .int .i64 0, .int .i64 0, .int .i64 0, .int .i64 0] := Bx.new rfl
              exact (hb8.block _ (by (try simp only [World.size_drew, World.size_alloc]); omega)).trans QB0
            have n0 := QB.c 0 rfl
            have n1 := QB.c 1 rfl
            have n2 := QB.c 2 rfl
            have n3 := QB.c 3 rfl
            have n4 := QB.c 4 rfl
            have nf := QB.f
            go_simp
            refine hK.out _ _ (fun _ => ?_) (fun hS3 => ?_)
            · exact ⟨kst5 (by omega) (hS2.1), kst5 (by omega) (hS2.2.1), kst5 (by omega) (hS2.2.2.1), kst5 (by omega) (hS2.2.2.2.1), kst5 (by omega) (hS2.2.2.2.2.1), kst5 (by omega) (hS2.2.2.2.2.2.1), kst5 (by omega) (hS2.2.2.2.2.2.2.1), kst5 (by omega) (hS2.2.2.2.2.2.2.2.1), kst5 (by omega) (hS2.2.2.2.2.2.2.2.2.1), kst5 (by omega) (hS2.2.2.2.2.2.2.2.2.2)⟩
            clear hK K
            have hS3 := hS3 (by decide)
            try simp only [Act.put, List.setIfInBounds_toArray, List.set_cons_zero, List.set_cons_succ]
            refine wpAnyX_take (i := 11) (oi := _) (v := ?_) rfl (by kernel_rfl) (by kernel_rfl) (by kernel_rfl) (by kernel_rfl) (fun _ _ _ h => h) (Or.inl ⟨by rfl, ?_⟩) hS3 ?_
            rotate_left 1
            · (intro w hSw; (try dsimp only at hSw); go_simp; (try with_reducible rfl))
            change wpAnyX _ _ _ _ _ _ _ _ (Act.put _ (some 8) _) _
            try simp only [Act.put, List.setIfInBounds_toArray, List.set_cons_zero, List.set_cons_succ]
            refine wpAnyX_done (by kernel_rfl) ?_ _
            go_wp2_with fail
            go_meet
            refine ⟨⟨_, rfl, rfl, ?_, ?_⟩, ?_⟩
            · show Bx _ _ _ _
              first | exact Bx.new rfl | exact ((((QB.set rfl).set rfl).set rfl).set rfl).set rfl
            · first | exact Nat.le_refl _ | omega
            · (repeat' (first | (with_reducible exact Below.refl _ _) | (with_reducible assumption) | (with_reducible refine Below.alloc ?_ ?_ _) | (with_reducible refine Below.drew ?_) | (with_reducible refine below_drewN ?_ _) | (with_reducible refine Below.setCell ?_ ?_ _) | (with_reducible refine chain ?_ (by assumption) ?_) | omega | (simp; done) | (simp; omega)))
        case rest =>
          obtain ⟨w9, rfl⟩ : ∃ w9, w9 = wc := ⟨_, rfl⟩
          obtain ⟨⟨bb, rfl, rfl, XS, hbb⟩, hb9⟩ := hcut
          have hz9 := hb9.size
          have lbb := XS.out.lt
          have e0 := XS.out.c 0 rfl
          have e1 := XS.out.c 1 rfl
          have e2 := XS.out.c 2 rfl
          have e3 := XS.out.c 3 rfl
          have e4 := XS.out.c 4 rfl
          have HB9 := hid (HBW.out.mono hb9)
          have hW9 : Hid (w.grownBy w9 (some g)) := grown_trans HW.out (grown_below (chain hbW hb9 (by omega)))
          have fr9 := HB9.out.fr
          obtain ⟨r0, r1, r2, r3, r4⟩ := HB9.out.cx (k := k + j) (tab_get (by omega))
          simp only [Nat.add_mul] at r0 r1 r2 r3 r4
          go_wp2_with (fail)
          go_roundg m2
          case measure => omega
          case rel =>
            refine ⟨j + 1, by omega, by go_num, ?_, ?_, ?_⟩
            · show Bk _ _ _ _
              have h1 := HB9.out.set (k := k + j) (addS false x y).1 (by rw [tab_len]; omega)
              rw [HXE.out, addP_set (by omega) HY.out, ← HXE.out, Nat.add_mul] at h1
              exact h1
            · show ∀ i, i < j + 1 → _
              intro i hi
              by_cases e : i = j
              · subst e; unfold addH; rw [← HXE.out, getD_of HY.out, HF.out]
              · exact HH.out i (by omega)
            · exact grown_set5 hW9.out
      · have HF := hid hf
        clear hf
        go_cut [7, 8] (fun s7 s8 wx => CutG (∃ bb : Nat, s7 = .pointer (some ⟨bb, 0, none⟩) ∧ s8 = .bool false ∧ Hid (Bx wx bb 37 #[.int .i64 z5.a, .int .i64 z5.b, .int .i64 z5.c, .int .i64 z5.d, .int .i64 z5.e]) ∧ W.heap.size ≤ bb) (Below W.heap.size W wx))
        case first =>
          have yp0 : W.drew.cell? ⟨g, k * 5 + j * 5, none⟩ = some (.int .i64 x.a) := p0
          have yp1 : W.drew.cell? ⟨g, k * 5 + j * 5 + 1, none⟩ = some (.int .i64 x.b) := p1
          have yp2 : W.drew.cell? ⟨g, k * 5 + j * 5 + 2, none⟩ = some (.int .i64 x.c) := p2
          have yp3 : W.drew.cell? ⟨g, k * 5 + j * 5 + 3, none⟩ = some (.int .i64 x.d) := p3
          have yp4 : W.drew.cell? ⟨g, k * 5 + j * 5 + 4, none⟩ = some (.int .i64 x.e) := p4
          have yd0 : W.drew.cell? ⟨wr.heap.size, 0, none⟩ = some (.int .i64 y.a) := d0
          have yd1 : W.drew.cell? ⟨wr.heap.size, 1, none⟩ = some (.int .i64 y.b) := d1
          have yd2 : W.drew.cell? ⟨wr.heap.size, 2, none⟩ = some (.int .i64 y.c) := d2
          have yd3 : W.drew.cell? ⟨wr.heap.size, 3, none⟩ = some (.int .i64 y.d) := d3
          have yd4 : W.drew.cell? ⟨wr.heap.size, 4, none⟩ = some (.int .i64 y.e) := d4
          refine wp_region_x (fun w' => w'.cell? ⟨g, k * 5 + j * 5, none⟩ = some (.int .i64 x.a) ∧ w'.cell? ⟨g, k * 5 + j * 5 + 1, none⟩ = some (.int .i64 x.b) ∧ w'.cell? ⟨g, k * 5 + j * 5 + 2, none⟩ = some (.int .i64 x.c) ∧ w'.cell? ⟨g, k * 5 + j * 5 + 3, none⟩ = some (.int .i64 x.d) ∧ w'.cell? ⟨g, k * 5 + j * 5 + 4, none⟩ = some (.int .i64 x.e) ∧ w'.cell? ⟨wr.heap.size, 0, none⟩ = some (.int .i64 y.a) ∧ w'.cell? ⟨wr.heap.size, 1, none⟩ = some (.int .i64 y.b) ∧ w'.cell? ⟨wr.heap.size, 2, none⟩ = some (.int .i64 y.c) ∧ w'.cell? ⟨wr.heap.size, 3, none⟩ = some (.int .i64 y.d) ∧ w'.cell? ⟨wr.heap.size, 4, none⟩ = some (.int .i64 y.e)) 1000 (by kernel_rfl) ⟨yp0, yp1, yp2, yp3, yp4, yd0, yd1, yd2, yd3, yd4⟩ (fun hS0 => ?_)
          refine wpAnyX_take (i := 0) (oi := _) (v := ?_) rfl (by kernel_rfl) (by kernel_rfl) (by kernel_rfl) (by kernel_rfl) (fun _ _ _ h => h) (Or.inl ⟨by rfl, ?_⟩) hS0 ?_
          rotate_left 1
          · (intro w hSw; (try dsimp only at hSw); go_simp; (try with_reducible rfl))
          try simp only [Act.put, List.setIfInBounds_toArray, List.set_cons_zero, List.set_cons_succ]
          refine wpAnyX_take (i := 1) (oi := _) (v := ?_) rfl (by kernel_rfl) (by kernel_rfl) (by kernel_rfl) (by kernel_rfl) (fun _ _ _ h => h) (Or.inl ⟨by rfl, ?_⟩) hS0 ?_
          rotate_left 1
          · (intro w hSw; (try dsimp only at hSw); go_simp; (try with_reducible rfl))
          try simp only [Act.put, List.setIfInBounds_toArray, List.set_cons_zero, List.set_cons_succ]
          refine wpAnyX_take (i := 2) (oi := _) (v := ?_) rfl (by kernel_rfl) (by kernel_rfl) (by kernel_rfl) (by kernel_rfl) (fun _ _ _ h => h) (Or.inl ⟨by rfl, ?_⟩) hS0 ?_
          rotate_left 1
          · (intro w hSw; (try dsimp only at hSw); go_simp; (try with_reducible rfl))
          try simp only [Act.put, List.setIfInBounds_toArray, List.set_cons_zero, List.set_cons_succ]
          refine wpAnyX_take (i := 3) (oi := _) (v := ?_) rfl (by kernel_rfl) (by kernel_rfl) (by kernel_rfl) (by kernel_rfl) (fun _ _ _ h => h) (Or.inl ⟨by rfl, ?_⟩) hS0 ?_
          rotate_left 1
          · (intro w hSw; (try dsimp only at hSw); go_simp; (try with_reducible rfl))
          try simp only [Act.put, List.setIfInBounds_toArray, List.set_cons_zero, List.set_cons_succ]
          refine wpAnyX_take (i := 4) (oi := _) (v := ?_) rfl (by kernel_rfl) (by kernel_rfl) (by kernel_rfl) (by kernel_rfl) (fun _ _ _ h => h) (Or.inl ⟨by rfl, ?_⟩) hS0 ?_
          rotate_left 1
          · (intro w hSw; (try dsimp only at hSw); go_simp; (try with_reducible rfl))
          try simp only [Act.put, List.setIfInBounds_toArray, List.set_cons_zero, List.set_cons_succ]
          refine wpAnyX_two (i := 5) (j := 9) (oi := _) (oj := _) rfl rfl (by kernel_rfl) (fun K hK => ?_) (fun K hK => ?_)
          · go_simp
            refine (iadd_f (x := x) (y := y) HKx.out HKy.out HF.out _).mono ?_
            rintro ee w8 ⟨rfl, hb8⟩
            have hz8 := hb8.size
            (try simp only [World.size_drew, World.size_alloc] at hz8)
            refine hK.out _ _ (fun _ => ?_) (fun hS1 => ?_)
            · exact ⟨kc hb8 (hS0.1), kc hb8 (hS0.2.1), kc hb8 (hS0.2.2.1), kc hb8 (hS0.2.2.2.1), kc hb8 (hS0.2.2.2.2.1), kc hb8 (hS0.2.2.2.2.2.1), kc hb8 (hS0.2.2.2.2.2.2.1), kc hb8 (hS0.2.2.2.2.2.2.2.1), kc hb8 (hS0.2.2.2.2.2.2.2.2.1), kc hb8 (hS0.2.2.2.2.2.2.2.2.2)⟩
            clear hK K
            have hS1 := hS1 (by decide)
            try simp only [Act.put, List.setIfInBounds_toArray, List.set_cons_zero, List.set_cons_succ]
            refine wpAnyX_take (i := 6) (oi := _) (v := ?_) rfl (by kernel_rfl) (by kernel_rfl) (by kernel_rfl) (by kernel_rfl) (fun _ _ _ h => h) (Or.inl ⟨by rfl, ?_⟩) hS1 ?_
            rotate_left 1
            · (intro w hSw; (try dsimp only at hSw); go_simp; (try with_reducible rfl))
            try simp only [Act.put, List.setIfInBounds_toArray, List.set_cons_zero, List.set_cons_succ]
            refine wpAnyX_take (i := 7) (oi := _) (v := ?_) rfl (by kernel_rfl) (by kernel_rfl) (by kernel_rfl) (by kernel_rfl) (fun _ _ _ h => h) (Or.inl ⟨by rfl, ?_⟩) hS1 ?_
            rotate_left 1
            · (intro w hSw; (try dsimp only at hSw); go_simp; (try with_reducible rfl))
            try simp only [Act.put, List.setIfInBounds_toArray, List.set_cons_zero, List.set_cons_succ]
            refine wpAnyX_take (i := 8) (oi := _) (v := ?_) rfl (by kernel_rfl) (by kernel_rfl) (by kernel_rfl) (by kernel_rfl) (fun _ _ _ h => h) (Or.inl ⟨by rfl, ?_⟩) hS1 ?_
            rotate_left 1
            · (intro w hSw; (try dsimp only at hSw); go_simp; (try with_reducible rfl))
            try simp only [Act.put, List.setIfInBounds_toArray, List.set_cons_zero, List.set_cons_succ]
            refine wpAnyX_one (i := 9) (o := _) rfl (by kernel_rfl) (fun K hK => ?_)
            go_simp
            refine hK.out _ _ (fun _ => ?_) (fun hS2 => ?_)
            · first | exact ⟨kal (hS1.1), kal (hS1.2.1), kal (hS1.2.2.1), kal (hS1.2.2.2.1), kal (hS1.2.2.2.2.1), kal (hS1.2.2.2.2.2.1), kal (hS1.2.2.2.2.2.2.1), kal (hS1.2.2.2.2.2.2.2.1), kal (hS1.2.2.2.2.2.2.2.2.1), kal (hS1.2.2.2.2.2.2.2.2.2)⟩ | exact ⟨kald (hS1.1), kald (hS1.2.1), kald (hS1.2.2.1), kald (hS1.2.2.2.1), kald (hS1.2.2.2.2.1), kald (hS1.2.2.2.2.2.1), kald (hS1.2.2.2.2.2.2.1), kald (hS1.2.2.2.2.2.2.2.1), kald (hS1.2.2.2.2.2.2.2.2.1), kald (hS1.2.2.2.2.2.2.2.2.2)⟩
            clear hK K
            have hS2 := hS2 (by decide)
            try simp only [Act.put, List.setIfInBounds_toArray, List.set_cons_zero, List.set_cons_succ]
            refine wpAnyX_one (i := 10) (o := _) rfl (by kernel_rfl) (fun K hK => ?_)
            go_simp
            refine hK.out _ _ (fun _ => ?_) (fun hS3 => ?_)
            · first | exact ⟨kre (by omega) (hS2.1), kre (by omega) (hS2.2.1), kre (by omega) (hS2.2.2.1), kre (by omega) (hS2.2.2.2.1), kre (by omega) (hS2.2.2.2.2.1), kre (by omega) (hS2.2.2.2.2.2.1), kre (by omega) (hS2.2.2.2.2.2.2.1), kre (by omega) (hS2.2.2.2.2.2.2.2.1), kre (by omega) (hS2.2.2.2.2.2.2.2.2.1), kre (by omega) (hS2.2.2.2.2.2.2.2.2.2)⟩ | exact ⟨kal (hS2.1), kal (hS2.2.1), kal (hS2.2.2.1), kal (hS2.2.2.2.1), kal (hS2.2.2.2.2.1), kal (hS2.2.2.2.2.2.1), kal (hS2.2.2.2.2.2.2.1), kal (hS2.2.2.2.2.2.2.2.1), kal (hS2.2.2.2.2.2.2.2.2.1), kal (hS2.2.2.2.2.2.2.2.2.2)⟩
            clear hK K
            have hS3 := hS3 (by decide)
            try simp only [Act.put, List.setIfInBounds_toArray, List.set_cons_zero, List.set_cons_succ]
            refine wpAnyX_take (i := 11) (oi := _) (v := ?_) rfl (by kernel_rfl) (by kernel_rfl) (by kernel_rfl) (by kernel_rfl) (fun _ _ _ h => h) (Or.inl ⟨by rfl, ?_⟩) hS3 ?_
            rotate_left 1
            · (intro w hSw; (try dsimp only at hSw); go_simp; (try with_reducible rfl))
            change wpAnyX _ _ _ _ _ _ _ _ (Act.put _ (some 8) _) _
            try simp only [Act.put, List.setIfInBounds_toArray, List.set_cons_zero, List.set_cons_succ]
            refine wpAnyX_done (by kernel_rfl) ?_ _
            go_wp2_with fail
            go_meet
            refine ⟨⟨_, rfl, rfl, ?_, ?_⟩, ?_⟩
            · show Bx _ _ _ _
              first | exact Bx.new rfl | exact ((((QB.set rfl).set rfl).set rfl).set rfl).set rfl
            · first | exact Nat.le_refl _ | omega
            · (repeat' (first | (with_reducible exact Below.refl _ _) | (with_reducible assumption) | (with_reducible refine Below.alloc ?_ ?_ _) | (with_reducible refine Below.drew ?_) | (with_reducible refine below_drewN ?_ _) | (with_reducible refine Below.setCell ?_ ?_ _) | (with_reducible refine chain ?_ (by assumption) ?_) | omega | (simp; done) | (simp; omega)))
          · go_simp
            refine hK.out _ _ (fun _ => ?_) (fun hS1 => ?_)
            · first | exact ⟨kal (hS0.1), kal (hS0.2.1), kal (hS0.2.2.1), kal (hS0.2.2.2.1), kal (hS0.2.2.2.2.1), kal (hS0.2.2.2.2.2.1), kal (hS0.2.2.2.2.2.2.1), kal (hS0.2.2.2.2.2.2.2.1), kal (hS0.2.2.2.2.2.2.2.2.1), kal (hS0.2.2.2.2.2.2.2.2.2)⟩ | exact ⟨kald (hS0.1), kald (hS0.2.1), kald (hS0.2.2.1), kald (hS0.2.2.2.1), kald (hS0.2.2.2.2.1), kald (hS0.2.2.2.2.2.1), kald (hS0.2.2.2.2.2.2.1), kald (hS0.2.2.2.2.2.2.2.1), kald (hS0.2.2.2.2.2.2.2.2.1), kald (hS0.2.2.2.2.2.2.2.2.2)⟩
            clear hK K
            have hS1 := hS1 (by decide)
            try simp only [Act.put, List.setIfInBounds_toArray, List.set_cons_zero, List.set_cons_succ]
            refine wpAnyX_one (i := 5) (o := _) rfl (by kernel_rfl) (fun K hK => ?_)
            go_simp
            refine (iadd_f (x := x) (y := y) HKx.out HKy.out HF.out _).mono ?_
            rintro ee w8 ⟨rfl, hb8⟩
            have hz8 := hb8.size
            (try simp only [World.size_drew, World.size_alloc] at hz8)
            refine hK.out _ _ (fun _ => ?_) (fun hS2 => ?_)
            · exact ⟨kc hb8 (hS1.1), kc hb8 (hS1.2.1), kc hb8 (hS1.2.2.1), kc hb8 (hS1.2.2.2.1), kc hb8 (hS1.2.2.2.2.1), kc hb8 (hS1.2.2.2.2.2.1), kc hb8 (hS1.2.2.2.2.2.2.1), kc hb8 (hS1.2.2.2.2.2.2.2.1), kc hb8 (hS1.2.2.2.2.2.2.2.2.1), kc hb8 (hS1.2.2.2.2.2.2.2.2.2)⟩
            clear hK K
            have hS2 := hS2 (by decide)
            try simp only [Act.put, List.setIfInBounds_toArray, List.set_cons_zero, List.set_cons_succ]
            refine wpAnyX_take (i := 6) (oi := _) (v := ?_) rfl (by kernel_rfl) (by kernel_rfl) (by kernel_rfl) (by kernel_rfl) (fun _ _ _ h => h) (Or.inl ⟨by rfl, ?_⟩) hS2 ?_
            rotate_left 1
            · (intro w hSw; (try dsimp only at hSw); go_simp; (try with_reducible rfl))
            try simp only [Act.put, List.setIfInBounds_toArray, List.set_cons_zero, List.set_cons_succ]
            refine wpAnyX_take (i := 7) (oi := _) (v := ?_) rfl (by kernel_rfl) (by kernel_rfl) (by kernel_rfl) (by kernel_rfl) (fun _ _ _ h => h) (Or.inl ⟨by rfl, ?_⟩) hS2 ?_
            rotate_left 1
            · (intro w hSw; (try dsimp only at hSw); go_simp; (try with_reducible rfl))
            try simp only [Act.put, List.setIfInBounds_toArray, List.set_cons_zero, List.set_cons_succ]
            refine wpAnyX_take (i := 8) (oi := _) (v := ?_) rfl (by kernel_rfl) (by kernel_rfl) (by kernel_rfl) (by kernel_rfl) (fun _ _ _ h => h) (Or.inl ⟨by rfl, ?_⟩) hS2 ?_
            rotate_left 1
            · (intro w hSw; (try dsimp only at hSw); go_simp; (try with_reducible rfl))
            try simp only [Act.put, List.setIfInBounds_toArray, List.set_cons_zero, List.set_cons_succ]
            refine wpAnyX_one (i := 10) (o := _) rfl (by kernel_rfl) (fun K hK => ?_)
            have QB : Bx w8 W.heap.size 37 #[.int .i64 0, .int .i64 0, .int .i64 0, .int .i64 0, .int .i64 0] := by
              have QB0 : Bx (W.alloc (.cells #[.int .i64 0, .int .i64 0, .int .i64 0, .int .i64 0, .int .i64 0] 37)) W.heap.size 37 #[.int .i64 0, .int .i64 0, .int .i64 0, .int .i64 0, .int .i64 0] := Bx.new rfl
              exact (hb8.block _ (by (try simp only [World.size_drew, World.size_alloc]); omega)).trans QB0
            have n0 := QB.c 0 rfl
            have n1 := QB.c 1 rfl
            have n2 := QB.c 2 rfl
            have n3 := QB.c 3 rfl
            have n4 := QB.c 4 rfl
            have nf := QB.f
            go_simp
            refine hK.out _ _ (fun _ => ?_) (fun hS3 => ?_)
            · exact ⟨kst5 (by omega) (hS2.1), kst5 (by omega) (hS2.2.1), kst5 (by omega) (hS2.2.2.1), kst5 (by omega) (hS2.2.2.2.1), kst5 (by omega) (hS2.2.2.2.2.1), kst5 (by omega) (hS2.2.2.2.2.2.1), kst5 (by omega) (hS2.2.2.2.2.2.2.1), kst5 (by omega) (hS2.2.2.2.2.2.2.2.1), kst5 (by omega) (hS2.2.2.2.2.2.2.2.2.1), kst5 (by omega) (hS2.2.2.2.2.2.2.2.2.2)⟩
            clear hK K
            have hS3 := hS3 (by decide)
            try simp only [Act.put, List.setIfInBounds_toArray, List.set_cons_zero, List.set_cons_succ]
            refine wpAnyX_take (i := 11) (oi := _) (v := ?_) rfl (by kernel_rfl) (by kernel_rfl) (by kernel_rfl) (by kernel_rfl) (fun _ _ _ h => h) (Or.inl ⟨by rfl, ?_⟩) hS3 ?_
            rotate_left 1
            · (intro w hSw; (try dsimp only at hSw); go_simp; (try with_reducible rfl))
            change wpAnyX _ _ _ _ _ _ _ _ (Act.put _ (some 8) _) _
            try simp only [Act.put, List.setIfInBounds_toArray, List.set_cons_zero, List.set_cons_succ]
            refine wpAnyX_done (by kernel_rfl) ?_ _
            go_wp2_with fail
            go_meet
            refine ⟨⟨_, rfl, rfl, ?_, ?_⟩, ?_⟩
            · show Bx _ _ _ _
              first | exact Bx.new rfl | exact ((((QB.set rfl).set rfl).set rfl).set rfl).set rfl
            · first | exact Nat.le_refl _ | omega
            · (repeat' (first | (with_reducible exact Below.refl _ _) | (with_reducible assumption) | (with_reducible refine Below.alloc ?_ ?_ _) | (with_reducible refine Below.drew ?_) | (with_reducible refine below_drewN ?_ _) | (with_reducible refine Below.setCell ?_ ?_ _) | (with_reducible refine chain ?_ (by assumption) ?_) | omega | (simp; done) | (simp; omega)))
        case rest =>
          obtain ⟨w9, rfl⟩ : ∃ w9, w9 = wc := ⟨_, rfl⟩
          obtain ⟨⟨bb, rfl, rfl, XS, hbb⟩, hb9⟩ := hcut
          have hz9 := hb9.size
          have lbb := XS.out.lt
          have e0 := XS.out.c 0 rfl
          have e1 := XS.out.c 1 rfl
          have e2 := XS.out.c 2 rfl
          have e3 := XS.out.c 3 rfl
          have e4 := XS.out.c 4 rfl
          have HB9 := hid (HBW.out.mono hb9)
          have hW9 : Hid (w.grownBy w9 (some g)) := grown_trans HW.out (grown_below (chain hbW hb9 (by omega)))
          go_wp2_with (fail)
          go_ret
          refine ⟨fun _ => rfl, fun h => ?_, hW9.out⟩
          have : addH f ys k j = true := by unfold addH; rw [← HXE.out, getD_of HY.out, HF.out]
          rw [anyB_of hlt this] at h; cases h
end Go.Proofs.Ytncgccpkbneagaa
namespace Go.Proofs.Ytncgccpkbneagaa
open Go.RowKit RM
set_option linter.unusedVariables false
set_option linter.unusedSimpArgs false
attribute [local irreducible] World.setCell

set_option maxRecDepth 100000 in
set_option maxHeartbeats 4000000 in
theorem mad_s_v1 {r c r' c' : Int} {A B : Option Addr} {n m cp cp' : Nat} {xs ys : List D5} {w : World} (hA : Rd w A xs) (hB : Rd w B ys) (hn : xs.length = n) (hm : ys.length = m) (hok : okM r c n xs = false) :
    Calls Try.prog 33 #[mv r c A n cp, mv r' c' B m cp'] w fun ee w' => ee = .returned (mt 0 0 none 0 0 false) ∧ Below w.heap.size w w' := by
  have HA := hid hA
  have HB := hid hB
  have HN := hid hn
  have HM := hid hm
  have HO := hid hok
  clear hA hB hn hm hok
  go_enter Try.func33, Try.ntmps33
  go_wp2_with (fail)
  refine (vm_s_f (xs := xs) HO.out ?_ HN.out).mono ?_
  · exact HA.out.mono (by (repeat' (first | (with_reducible exact Below.refl _ _) | (with_reducible assumption) | (with_reducible refine Below.alloc ?_ ?_ _) | (with_reducible refine Below.drew ?_) | (with_reducible refine below_drewN ?_ _) | (with_reducible refine Below.setCell ?_ ?_ _) | (with_reducible refine chain ?_ (by assumption) ?_) | omega | (simp; done) | (simp; omega))))
  rintro ee w1 ⟨rfl, hb1⟩
  have hw1 : Below w.heap.size w w1 := by (repeat' (first | (with_reducible exact Below.refl _ _) | (with_reducible assumption) | (with_reducible refine Below.alloc ?_ ?_ _) | (with_reducible refine Below.drew ?_) | (with_reducible refine below_drewN ?_ _) | (with_reducible refine Below.setCell ?_ ?_ _) | (with_reducible refine chain ?_ (by assumption) ?_) | omega | (simp; done) | (simp; omega)))
  obtain ⟨hc1, hf1, _⟩ := bcell hb1; have hz1 := hb1.size; (try simp at hz1); (try have hx10 : w.heap.size < w1.heap.size := (by omega)); (try have hx11 : w.heap.size + 1 < w1.heap.size := (by omega)); (try have hx12 : w.heap.size + 1 + 1 < w1.heap.size := (by omega)); (try have hx13 : w.heap.size + 1 + 1 + 1 < w1.heap.size := (by omega))
  go_wp2_with (fail)
  refine bodyPost_ret (v := mt 0 0 none 0 0 false) (by first | (simp [results, Try.results33, go_sem, *]; done) | (simp (disch := (first | omega | (simp; done) | (simp; omega))) [results, Try.results33, go_sem, *]; done) | (simp only [results, Try.results33]; go_simp; done)) rfl ⟨rfl, ?_⟩
  (repeat' (first | (with_reducible exact Below.refl _ _) | (with_reducible assumption) | (with_reducible refine Below.alloc ?_ ?_ _) | (with_reducible refine Below.drew ?_) | (with_reducible refine below_drewN ?_ _) | (with_reducible refine Below.setCell ?_ ?_ _) | (with_reducible refine chain ?_ (by assumption) ?_) | omega | (simp; done) | (simp; omega)))

set_option maxRecDepth 100000 in
set_option maxHeartbeats 4000000 in
theorem mad_s_v2 {r c r' c' : Int} {A B : Option Addr} {n m cp cp' : Nat} {xs ys : List D5} {w : World} (hA : Rd w A xs) (hB : Rd w B ys) (hn : xs.length = n) (hm : ys.length = m) (hok : okM r c n xs = true) (hok2 : okM r' c' m ys = false) :
    Calls Try.prog 33 #[mv r c A n cp, mv r' c' B m cp'] w fun ee w' => ee = .returned (mt 0 0 none 0 0 false) ∧ Below w.heap.size w w' := by
  have HA := hid hA
  have HB := hid hB
  have HN := hid hn
  have HM := hid hm
  have HO := hid hok
  have HP := hid hok2
  clear hA hB hn hm hok hok2
  go_enter Try.func33, Try.ntmps33
  go_wp2_with (fail)
  refine (vm_s_t (xs := xs) HO.out ?_ HN.out).mono ?_
  · exact HA.out.mono (by (repeat' (first | (with_reducible exact Below.refl _ _) | (with_reducible assumption) | (with_reducible refine Below.alloc ?_ ?_ _) | (with_reducible refine Below.drew ?_) | (with_reducible refine below_drewN ?_ _) | (with_reducible refine Below.setCell ?_ ?_ _) | (with_reducible refine chain ?_ (by assumption) ?_) | omega | (simp; done) | (simp; omega))))
  rintro ee w1 ⟨rfl, hb1⟩
  have hw1 : Below w.heap.size w w1 := by (repeat' (first | (with_reducible exact Below.refl _ _) | (with_reducible assumption) | (with_reducible refine Below.alloc ?_ ?_ _) | (with_reducible refine Below.drew ?_) | (with_reducible refine below_drewN ?_ _) | (with_reducible refine Below.setCell ?_ ?_ _) | (with_reducible refine chain ?_ (by assumption) ?_) | omega | (simp; done) | (simp; omega)))
  obtain ⟨hc1, hf1, _⟩ := bcell hb1; have hz1 := hb1.size; (try simp at hz1); (try have hx10 : w.heap.size < w1.heap.size := (by omega)); (try have hx11 : w.heap.size + 1 < w1.heap.size := (by omega)); (try have hx12 : w.heap.size + 1 + 1 < w1.heap.size := (by omega)); (try have hx13 : w.heap.size + 1 + 1 + 1 < w1.heap.size := (by omega))
  go_wp2_with (fail)
  refine (vm_s_f (xs := ys) HP.out ?_ HM.out).mono ?_
  · exact HB.out.mono (by (repeat' (first | (with_reducible exact Below.refl _ _) | (with_reducible assumption) | (with_reducible refine Below.alloc ?_ ?_ _) | (with_reducible refine Below.drew ?_) | (with_reducible refine below_drewN ?_ _) | (with_reducible refine Below.setCell ?_ ?_ _) | (with_reducible refine chain ?_ (by assumption) ?_) | omega | (simp; done) | (simp; omega))))
  rintro ee w2 ⟨rfl, hb2⟩
  have hw2 : Below w.heap.size w w2 := by (repeat' (first | (with_reducible exact Below.refl _ _) | (with_reducible assumption) | (with_reducible refine Below.alloc ?_ ?_ _) | (with_reducible refine Below.drew ?_) | (with_reducible refine below_drewN ?_ _) | (with_reducible refine Below.setCell ?_ ?_ _) | (with_reducible refine chain ?_ (by assumption) ?_) | omega | (simp; done) | (simp; omega)))
  obtain ⟨hc2, hf2, _⟩ := bcell hb2; have hz2 := hb2.size; (try simp at hz2); (try have hx20 : w.heap.size < w2.heap.size := (by omega)); (try have hx21 : w.heap.size + 1 < w2.heap.size := (by omega)); (try have hx22 : w.heap.size + 1 + 1 < w2.heap.size := (by omega)); (try have hx23 : w.heap.size + 1 + 1 + 1 < w2.heap.size := (by omega))
  go_wp2_with (fail)
  refine bodyPost_ret (v := mt 0 0 none 0 0 false) (by first | (simp [results, Try.results33, go_sem, *]; done) | (simp (disch := (first | omega | (simp; done) | (simp; omega))) [results, Try.results33, go_sem, *]; done) | (simp only [results, Try.results33]; go_simp; done)) rfl ⟨rfl, ?_⟩
  (repeat' (first | (with_reducible exact Below.refl _ _) | (with_reducible assumption) | (with_reducible refine Below.alloc ?_ ?_ _) | (with_reducible refine Below.drew ?_) | (with_reducible refine below_drewN ?_ _) | (with_reducible refine Below.setCell ?_ ?_ _) | (with_reducible refine chain ?_ (by assumption) ?_) | omega | (simp; done) | (simp; omega)))

set_option maxRecDepth 100000 in
set_option maxHeartbeats 4000000 in
theorem mad_s_r {r c r' c' : Int} {A B : Option Addr} {n m cp cp' : Nat} {xs ys : List D5} {w : World} (hA : Rd w A xs) (hB : Rd w B ys) (hn : xs.length = n) (hm : ys.length = m) (hok : okM r c n xs = true) (hok2 : okM r' c' m ys = true) (hr : r ≠ r') :
    Calls Try.prog 33 #[mv r c A n cp, mv r' c' B m cp'] w fun ee w' => ee = .returned (mt 0 0 none 0 0 false) ∧ Below w.heap.size w w' := by
  have h1 : (r != r') = true := by simpa using hr
  have HA := hid hA
  have HB := hid hB
  have HN := hid hn
  have HM := hid hm
  have HO := hid hok
  have HP := hid hok2
  clear hA hB hn hm hok hok2 hr
  go_enter Try.func33, Try.ntmps33
  go_wp2_with (fail)
  refine (vm_s_t (xs := xs) HO.out ?_ HN.out).mono ?_
  · exact HA.out.mono (by (repeat' (first | (with_reducible exact Below.refl _ _) | (with_reducible assumption) | (with_reducible refine Below.alloc ?_ ?_ _) | (with_reducible refine Below.drew ?_) | (with_reducible refine below_drewN ?_ _) | (with_reducible refine Below.setCell ?_ ?_ _) | (with_reducible refine chain ?_ (by assumption) ?_) | omega | (simp; done) | (simp; omega))))
  rintro ee w1 ⟨rfl, hb1⟩
  have hw1 : Below w.heap.size w w1 := by (repeat' (first | (with_reducible exact Below.refl _ _) | (with_reducible assumption) | (with_reducible refine Below.alloc ?_ ?_ _) | (with_reducible refine Below.drew ?_) | (with_reducible refine below_drewN ?_ _) | (with_reducible refine Below.setCell ?_ ?_ _) | (with_reducible refine chain ?_ (by assumption) ?_) | omega | (simp; done) | (simp; omega)))
  obtain ⟨hc1, hf1, _⟩ := bcell hb1; have hz1 := hb1.size; (try simp at hz1); (try have hx10 : w.heap.size < w1.heap.size := (by omega)); (try have hx11 : w.heap.size + 1 < w1.heap.size := (by omega)); (try have hx12 : w.heap.size + 1 + 1 < w1.heap.size := (by omega)); (try have hx13 : w.heap.size + 1 + 1 + 1 < w1.heap.size := (by omega))
  go_wp2_with (fail)
  refine (vm_s_t (xs := ys) HP.out ?_ HM.out).mono ?_
  · exact HB.out.mono (by (repeat' (first | (with_reducible exact Below.refl _ _) | (with_reducible assumption) | (with_reducible refine Below.alloc ?_ ?_ _) | (with_reducible refine Below.drew ?_) | (with_reducible refine below_drewN ?_ _) | (with_reducible refine Below.setCell ?_ ?_ _) | (with_reducible refine chain ?_ (by assumption) ?_) | omega | (simp; done) | (simp; omega))))
  rintro ee w2 ⟨rfl, hb2⟩
  have hw2 : Below w.heap.size w w2 := by (repeat' (first | (with_reducible exact Below.refl _ _) | (with_reducible assumption) | (with_reducible refine Below.alloc ?_ ?_ _) | (with_reducible refine Below.drew ?_) | (with_reducible refine below_drewN ?_ _) | (with_reducible refine Below.setCell ?_ ?_ _) | (with_reducible refine chain ?_ (by assumption) ?_) | omega | (simp; done) | (simp; omega)))
  obtain ⟨hc2, hf2, _⟩ := bcell hb2; have hz2 := hb2.size; (try simp at hz2); (try have hx20 : w.heap.size < w2.heap.size := (by omega)); (try have hx21 : w.heap.size + 1 < w2.heap.size := (by omega)); (try have hx22 : w.heap.size + 1 + 1 < w2.heap.size := (by omega)); (try have hx23 : w.heap.size + 1 + 1 + 1 < w2.heap.size := (by omega))
  go_wp2_with (fail)
  refine bodyPost_ret (v := mt 0 0 none 0 0 false) (by first | (simp [results, Try.results33, go_sem, *]; done) | (simp (disch := (first | omega | (simp; done) | (simp; omega))) [results, Try.results33, go_sem, *]; done) | (simp only [results, Try.results33]; go_simp; done)) rfl ⟨rfl, ?_⟩
  (repeat' (first | (with_reducible exact Below.refl _ _) | (with_reducible assumption) | (with_reducible refine Below.alloc ?_ ?_ _) | (with_reducible refine Below.drew ?_) | (with_reducible refine below_drewN ?_ _) | (with_reducible refine Below.setCell ?_ ?_ _) | (with_reducible refine chain ?_ (by assumption) ?_) | omega | (simp; done) | (simp; omega)))

set_option maxRecDepth 100000 in
set_option maxHeartbeats 4000000 in
theorem mad_s_c {r c r' c' : Int} {A B : Option Addr} {n m cp cp' : Nat} {xs ys : List D5} {w : World} (hA : Rd w A xs) (hB : Rd w B ys) (hn : xs.length = n) (hm : ys.length = m) (hok : okM r c n xs = true) (hok2 : okM r' c' m ys = true) (hr : r = r') (hc : c ≠ c') :
    Calls Try.prog 33 #[mv r c A n cp, mv r' c' B m cp'] w fun ee w' => ee = .returned (mt 0 0 none 0 0 false) ∧ Below w.heap.size w w' := by
  subst hr
  have h1 : (c != c') = true := by simpa using hc
  have HA := hid hA
  have HB := hid hB
  have HN := hid hn
  have HM := hid hm
  have HO := hid hok
  have HP := hid hok2
  clear hA hB hn hm hok hok2 hc
  go_enter Try.func33, Try.ntmps33
  go_wp2_with (fail)
  refine (vm_s_t (xs := xs) HO.out ?_ HN.out).mono ?_
  · exact HA.out.mono (by (repeat' (first | (with_reducible exact Below.refl _ _) | (with_reducible assumption) | (with_reducible refine Below.alloc ?_ ?_ _) | (with_reducible refine Below.drew ?_) | (with_reducible refine below_drewN ?_ _) | (with_reducible refine Below.setCell ?_ ?_ _) | (with_reducible refine chain ?_ (by assumption) ?_) | omega | (simp; done) | (simp; omega))))
  rintro ee w1 ⟨rfl, hb1⟩
  have hw1 : Below w.heap.size w w1 := by (repeat' (first | (with_reducible exact Below.refl _ _) | (with_reducible assumption) | (with_reducible refine Below.alloc ?_ ?_ _) | (with_reducible refine Below.drew ?_) | (with_reducible refine below_drewN ?_ _) | (with_reducible refine Below.setCell ?_ ?_ _) | (with_reducible refine chain ?_ (by assumption) ?_) | omega | (simp; done) | (simp; omega)))
  obtain ⟨hc1, hf1, _⟩ := bcell hb1; have hz1 := hb1.size; (try simp at hz1); (try have hx10 : w.heap.size < w1.heap.size := (by omega)); (try have hx11 : w.heap.size + 1 < w1.heap.size := (by omega)); (try have hx12 : w.heap.size + 1 + 1 < w1.heap.size := (by omega)); (try have hx13 : w.heap.size + 1 + 1 + 1 < w1.heap.size := (by omega))
  go_wp2_with (fail)
  refine (vm_s_t (xs := ys) HP.out ?_ HM.out).mono ?_
  · exact HB.out.mono (by (repeat' (first | (with_reducible exact Below.refl _ _) | (with_reducible assumption) | (with_reducible refine Below.alloc ?_ ?_ _) | (with_reducible refine Below.drew ?_) | (with_reducible refine below_drewN ?_ _) | (with_reducible refine Below.setCell ?_ ?_ _) | (with_reducible refine chain ?_ (by assumption) ?_) | omega | (simp; done) | (simp; omega))))
  rintro ee w2 ⟨rfl, hb2⟩
  have hw2 : Below w.heap.size w w2 := by (repeat' (first | (with_reducible exact Below.refl _ _) | (with_reducible assumption) | (with_reducible refine Below.alloc ?_ ?_ _) | (with_reducible refine Below.drew ?_) | (with_reducible refine below_drewN ?_ _) | (with_reducible refine Below.setCell ?_ ?_ _) | (with_reducible refine chain ?_ (by assumption) ?_) | omega | (simp; done) | (simp; omega)))
  obtain ⟨hc2, hf2, _⟩ := bcell hb2; have hz2 := hb2.size; (try simp at hz2); (try have hx20 : w.heap.size < w2.heap.size := (by omega)); (try have hx21 : w.heap.size + 1 < w2.heap.size := (by omega)); (try have hx22 : w.heap.size + 1 + 1 < w2.heap.size := (by omega)); (try have hx23 : w.heap.size + 1 + 1 + 1 < w2.heap.size := (by omega))
  go_wp2_with (fail)
  refine bodyPost_ret (v := mt 0 0 none 0 0 false) (by first | (simp [results, Try.results33, go_sem, *]; done) | (simp (disch := (first | omega | (simp; done) | (simp; omega))) [results, Try.results33, go_sem, *]; done) | (simp only [results, Try.results33]; go_simp; done)) rfl ⟨rfl, ?_⟩
  (repeat' (first | (with_reducible exact Below.refl _ _) | (with_reducible assumption) | (with_reducible refine Below.alloc ?_ ?_ _) | (with_reducible refine Below.drew ?_) | (with_reducible refine below_drewN ?_ _) | (with_reducible refine Below.setCell ?_ ?_ _) | (with_reducible refine chain ?_ (by assumption) ?_) | omega | (simp; done) | (simp; omega)))

/-- the sum's cells, and which fail -/
def addF (xs ys : List D5) (q : Nat) : D5 := (addS false (xs.getD q z5) (ys.getD q z5)).1
def addG (xs ys : List D5) (q : Nat) : Bool := (addS false (xs.getD q z5) (ys.getD q z5)).2

set_option maxRecDepth 100000 in
set_option maxHeartbeats 8000000 in
theorem mad_s_t {r c : Int} {A B : Option Addr} {n cp cp' : Nat} {xs ys : List D5} {w : World} (hA : Rd w A xs) (hB : Rd w B ys) (hn : xs.length = n) (hm : ys.length = n) (hok : okM r c n xs = true) (hok2 : okM r c n ys = true) :
    Calls Try.prog 33 #[mv r c A n cp, mv r c B n cp'] w fun ee w' => MR w w' ee r c n (tab n (addF xs ys)) (anyB n (addG xs ys)) := by
  obtain ⟨i0, hi0, hu0, hu1, hu2⟩ := info_parts infoD
  have hb : n ≤ 1024 := by
    obtain ⟨_, _, _, _, _, _, _, _, _, h⟩ := okM_nat hok
    exact h
  have HA := hid hA
  have HB := hid hB
  have HN := hid hn
  have HM := hid hm
  have HO := hid hok
  have HP := hid hok2
  clear hA hB hn hm hok hok2
  obtain ⟨F, hF⟩ : ∃ F, F = addF xs ys := ⟨_, rfl⟩
  obtain ⟨G, hG⟩ : ∃ G, G = addG xs ys := ⟨_, rfl⟩
  have HF := hid hF
  have HG := hid hG
  rw [← hF, ← hG]
  clear hF hG
  go_enter Try.func33, Try.ntmps33
  go_wp2_with (fail)
  refine (vm_s_t (xs := xs) HO.out ?_ HN.out).mono ?_
  · exact HA.out.mono (by (repeat' (first | (with_reducible exact Below.refl _ _) | (with_reducible assumption) | (with_reducible refine Below.alloc ?_ ?_ _) | (with_reducible refine Below.drew ?_) | (with_reducible refine below_drewN ?_ _) | (with_reducible refine Below.setCell ?_ ?_ _) | (with_reducible refine chain ?_ (by assumption) ?_) | omega | (simp; done) | (simp; omega))))
  rintro ee w1 ⟨rfl, hb1⟩
  obtain ⟨hc1, hf1, _⟩ := bcell hb1; have hz1 := hb1.size; (try simp at hz1); (try have hx10 : w.heap.size < w1.heap.size := (by omega)); (try have hx11 : w.heap.size + 1 < w1.heap.size := (by omega)); (try have hx12 : w.heap.size + 1 + 1 < w1.heap.size := (by omega)); (try have hx13 : w.heap.size + 1 + 1 + 1 < w1.heap.size := (by omega))
  have Xa1 : Hid (Bx w1 (w.heap.size) 26 #[.int .i64 r, .int .i64 c, .slice A n cp]) := by show Bx _ _ _ _; (repeat' (first | (with_reducible assumption) | (refine Bx.new (by first | (with_reducible rfl) | (simp; done))) | (with_reducible refine Bx.alloc ?_ _) | (with_reducible refine Bx.drew ?_) | (with_reducible refine Bx.drewN ?_ _) | (with_reducible refine Bx.mono ?_ (by assumption)) | (with_reducible refine Bx.badly ?_ (by assumption) (by omega)) | (with_reducible refine Bx.far ?_ (by (try simp only [World.size_alloc, World.size_drew]); omega)) | (with_reducible refine Bx.set ?_ rfl) | (with_reducible refine Bx.grown ?_ (by assumption) (by assumption))))
  have Xb1 : Hid (Bx w1 (w.heap.size + 1) 26 #[.int .i64 r, .int .i64 c, .slice B n cp']) := by show Bx _ _ _ _; (repeat' (first | (with_reducible assumption) | (refine Bx.new (by first | (with_reducible rfl) | (simp; done))) | (with_reducible refine Bx.alloc ?_ _) | (with_reducible refine Bx.drew ?_) | (with_reducible refine Bx.drewN ?_ _) | (with_reducible refine Bx.mono ?_ (by assumption)) | (with_reducible refine Bx.badly ?_ (by assumption) (by omega)) | (with_reducible refine Bx.far ?_ (by (try simp only [World.size_alloc, World.size_drew]); omega)) | (with_reducible refine Bx.set ?_ rfl) | (with_reducible refine Bx.grown ?_ (by assumption) (by assumption))))
  have Xz1 : Hid (Bx w1 (w.heap.size + 1 + 1) 26 #[.int .i64 0, .int .i64 0, .slice none 0 0]) := by show Bx _ _ _ _; (repeat' (first | (with_reducible assumption) | (refine Bx.new (by first | (with_reducible rfl) | (simp; done))) | (with_reducible refine Bx.alloc ?_ _) | (with_reducible refine Bx.drew ?_) | (with_reducible refine Bx.drewN ?_ _) | (with_reducible refine Bx.mono ?_ (by assumption)) | (with_reducible refine Bx.badly ?_ (by assumption) (by omega)) | (with_reducible refine Bx.far ?_ (by (try simp only [World.size_alloc, World.size_drew]); omega)) | (with_reducible refine Bx.set ?_ rfl) | (with_reducible refine Bx.grown ?_ (by assumption) (by assumption))))
  have hw1 : Below w.heap.size w w1 := by (repeat' (first | (with_reducible exact Below.refl _ _) | (with_reducible assumption) | (with_reducible refine Below.alloc ?_ ?_ _) | (with_reducible refine Below.drew ?_) | (with_reducible refine below_drewN ?_ _) | (with_reducible refine Below.setCell ?_ ?_ _) | (with_reducible refine chain ?_ (by assumption) ?_) | omega | (simp; done) | (simp; omega)))
  go_wp2_with (fail)
  refine (vm_s_t (xs := ys) HP.out ?_ HM.out).mono ?_
  · exact HB.out.mono (by (repeat' (first | (with_reducible exact Below.refl _ _) | (with_reducible assumption) | (with_reducible refine Below.alloc ?_ ?_ _) | (with_reducible refine Below.drew ?_) | (with_reducible refine below_drewN ?_ _) | (with_reducible refine Below.setCell ?_ ?_ _) | (with_reducible refine chain ?_ (by assumption) ?_) | omega | (simp; done) | (simp; omega))))
  rintro ee w2 ⟨rfl, hb2⟩
  obtain ⟨hc2, hf2, _⟩ := bcell hb2; have hz2 := hb2.size; (try simp at hz2); (try have hx20 : w.heap.size < w2.heap.size := (by omega)); (try have hx21 : w.heap.size + 1 < w2.heap.size := (by omega)); (try have hx22 : w.heap.size + 1 + 1 < w2.heap.size := (by omega)); (try have hx23 : w.heap.size + 1 + 1 + 1 < w2.heap.size := (by omega))
  have hw2 : Below w.heap.size w w2 := by (repeat' (first | (with_reducible exact Below.refl _ _) | (with_reducible assumption) | (with_reducible refine Below.alloc ?_ ?_ _) | (with_reducible refine Below.drew ?_) | (with_reducible refine below_drewN ?_ _) | (with_reducible refine Below.setCell ?_ ?_ _) | (with_reducible refine chain ?_ (by assumption) ?_) | omega | (simp; done) | (simp; omega)))
  have Xa2 := hid (Xa1.out.mono hb2)
  have Xb2 := hid (Xb1.out.mono hb2)
  have Xz2 := hid (Xz1.out.mono hb2)
  clear Xa1 Xb1 Xz1
  go_wp2_with (fail)
  go_loopg [42] n (fun q s1 wr => ∃ (j : Nat) (v : Value) (z : Bool) (zs : List D5), j + q = n ∧ s1 = .int .i64 (j : Int) ∧ Hid (Bx wr (w.heap.size) 26 #[.int .i64 r, .int .i64 c, .slice A n cp]) ∧ Hid (Bx wr (w.heap.size + 1) 26 #[.int .i64 r, .int .i64 c, .slice B n cp']) ∧ Hid (Bx wr (w.heap.size + 1 + 1) 26 #[.int .i64 0, .int .i64 0, .slice none 0 0]) ∧ Hid (Bx wr (w2.heap.size) 99 #[.bool z]) ∧ Hid (Bx wr (w2.heap.size + 1) 26 #[.int .i64 r, .int .i64 c, v]) ∧ Hid (Own5 wr (w2.heap.size + 1 + 1) 37 v zs) ∧ Hid (Sofar z zs j F G) ∧ w2.heap.size + 1 + 1 ≤ wr.heap.size ∧ Below w.heap.size w wr)
  case atStart =>
    have R1 := Xa2.out
    have R2 := Xb2.out
    have R3 := Xz2.out
    exact ⟨0, .slice none 0 0, false, [], by omega, rfl, (by show Bx _ _ _ _; (repeat' (first | (with_reducible assumption) | (refine Bx.new (by first | (with_reducible rfl) | (simp; done))) | (with_reducible refine Bx.alloc ?_ _) | (with_reducible refine Bx.drew ?_) | (with_reducible refine Bx.drewN ?_ _) | (with_reducible refine Bx.mono ?_ (by assumption)) | (with_reducible refine Bx.badly ?_ (by assumption) (by omega)) | (with_reducible refine Bx.far ?_ (by (try simp only [World.size_alloc, World.size_drew]); omega)) | (with_reducible refine Bx.set ?_ rfl) | (with_reducible refine Bx.grown ?_ (by assumption) (by assumption))))), (by show Bx _ _ _ _; (repeat' (first | (with_reducible assumption) | (refine Bx.new (by first | (with_reducible rfl) | (simp; done))) | (with_reducible refine Bx.alloc ?_ _) | (with_reducible refine Bx.drew ?_) | (with_reducible refine Bx.drewN ?_ _) | (with_reducible refine Bx.mono ?_ (by assumption)) | (with_reducible refine Bx.badly ?_ (by assumption) (by omega)) | (with_reducible refine Bx.far ?_ (by (try simp only [World.size_alloc, World.size_drew]); omega)) | (with_reducible refine Bx.set ?_ rfl) | (with_reducible refine Bx.grown ?_ (by assumption) (by assumption))))), (by show Bx _ _ _ _; (repeat' (first | (with_reducible assumption) | (refine Bx.new (by first | (with_reducible rfl) | (simp; done))) | (with_reducible refine Bx.alloc ?_ _) | (with_reducible refine Bx.drew ?_) | (with_reducible refine Bx.drewN ?_ _) | (with_reducible refine Bx.mono ?_ (by assumption)) | (with_reducible refine Bx.badly ?_ (by assumption) (by omega)) | (with_reducible refine Bx.far ?_ (by (try simp only [World.size_alloc, World.size_drew]); omega)) | (with_reducible refine Bx.set ?_ rfl) | (with_reducible refine Bx.grown ?_ (by assumption) (by assumption))))), (by show Bx _ _ _ _; (repeat' (first | (with_reducible assumption) | (refine Bx.new (by first | (with_reducible rfl) | (simp; done))) | (with_reducible refine Bx.alloc ?_ _) | (with_reducible refine Bx.drew ?_) | (with_reducible refine Bx.drewN ?_ _) | (with_reducible refine Bx.mono ?_ (by assumption)) | (with_reducible refine Bx.badly ?_ (by assumption) (by omega)) | (with_reducible refine Bx.far ?_ (by (try simp only [World.size_alloc, World.size_drew]); omega)) | (with_reducible refine Bx.set ?_ rfl) | (with_reducible refine Bx.grown ?_ (by assumption) (by assumption))))), (by show Bx _ _ _ _; (repeat' (first | (with_reducible assumption) | (refine Bx.new (by first | (with_reducible rfl) | (simp; done))) | (with_reducible refine Bx.alloc ?_ _) | (with_reducible refine Bx.drew ?_) | (with_reducible refine Bx.drewN ?_ _) | (with_reducible refine Bx.mono ?_ (by assumption)) | (with_reducible refine Bx.badly ?_ (by assumption) (by omega)) | (with_reducible refine Bx.far ?_ (by (try simp only [World.size_alloc, World.size_drew]); omega)) | (with_reducible refine Bx.set ?_ rfl) | (with_reducible refine Bx.grown ?_ (by assumption) (by assumption))))), Own5.nil _ _ _, Sofar.start _ _, by simp, by (repeat' (first | (with_reducible exact Below.refl _ _) | (with_reducible assumption) | (with_reducible refine Below.alloc ?_ ?_ _) | (with_reducible refine Below.drew ?_) | (with_reducible refine below_drewN ?_ _) | (with_reducible refine Below.setCell ?_ ?_ _) | (with_reducible refine chain ?_ (by assumption) ?_) | omega | (simp; done) | (simp; omega)))⟩
  case round =>
    obtain ⟨j, v, z, zs, hj, rfl, Xa, Xb, Xz, Xf, Xo, HOw, HS, hsz, hB⟩ := hrel
    clear Xa2 Xb2 Xz2
    have ca0 := Xa.out.c 0 rfl
    have ca1 := Xa.out.c 1 rfl
    have ca2 := Xa.out.c 2 rfl
    have la := Xa.out.lt
    have cb0 := Xb.out.c 0 rfl
    have cb1 := Xb.out.c 1 rfl
    have cb2 := Xb.out.c 2 rfl
    have lb := Xb.out.lt
    have cz0 := Xz.out.c 0 rfl
    have cz1 := Xz.out.c 1 rfl
    have cz2 := Xz.out.c 2 rfl
    have lz := Xz.out.lt
    have fz := Xz.out.f
    have cf0 := Xf.out.c 0 rfl
    have lf := Xf.out.lt
    have ff := Xf.out.f
    have co0 := Xo.out.c 0 rfl
    have co1 := Xo.out.c 1 rfl
    have co2 := Xo.out.c 2 rfl
    have lo := Xo.out.lt
    have fo := Xo.out.f
    cases gk with
    | zero =>
      obtain rfl : j = n := by omega
      obtain ⟨Bo, cq, hv, hRd, hBa⟩ := HOw.out.form
      rw [HS.out.1] at hv
      subst hv
      have HBa := hid hBa
      have HRd := hid hRd
      clear hRd hBa
      have hBq := hB.size
      cases z
      · go_wp2_with (fail)
        refine (cmat_f (by first | assumption | exact cf0)).mono ?_
        rintro ee w5 ⟨rfl, hb5⟩
        have hz5 := hb5.size
        have Yz := Xz.out.mono hb5
        have dz0 := Yz.c 0 rfl
        have dz1 := Yz.c 1 rfl
        have dz2 := Yz.c 2 rfl
        have dzf := Yz.f
        have hR5 := hid (HRd.out.mono hb5)
        clear Yz
        go_wp2_with (fail)
        refine bodyPost_ret (v := mt r c Bo j cq true) (by first | (simp [results, Try.results33, go_sem, *]; done) | (simp (disch := (first | omega | (simp; done) | (simp; omega))) [results, Try.results33, go_sem, *]; done) | (simp only [results, Try.results33]; go_simp; done)) rfl ⟨fun h => ?_, fun _ => ⟨Bo, cq, rfl, ?_, fun a ha => by have := (HBa.out a ha).1; omega⟩, ?_⟩
        · rw [← HS.out.2.1] at h; cases h
        · rw [← HS.out.2.2 rfl]
          (repeat' (first | exact hR5.out | refine Rd.far ?_ (fun a ha => by have := (HBa.out a ha).1; show _ ≠ w.heap.size + 1 + 1; omega) _))
        · (repeat' (first | (with_reducible exact Below.refl _ _) | (with_reducible assumption) | (with_reducible refine Below.alloc ?_ ?_ _) | (with_reducible refine Below.drew ?_) | (with_reducible refine below_drewN ?_ _) | (with_reducible refine Below.setCell ?_ ?_ _) | (with_reducible refine chain ?_ (by assumption) ?_) | omega | (simp; done) | (simp; omega)))
      · go_wp2_with (fail)
        refine (cmat_t (by first | assumption | exact cf0)).mono ?_
        rintro ee w5 ⟨rfl, hb5⟩
        have hz5 := hb5.size
        have Yz := Xz.out.mono hb5
        have dz0 := Yz.c 0 rfl
        have dz1 := Yz.c 1 rfl
        have dz2 := Yz.c 2 rfl
        have dzf := Yz.f
        clear Yz
        go_wp2_with (fail)
        refine bodyPost_ret (v := mt 0 0 none 0 0 false) (by first | (simp [results, Try.results33, go_sem, *]; done) | (simp (disch := (first | omega | (simp; done) | (simp; omega))) [results, Try.results33, go_sem, *]; done) | (simp only [results, Try.results33]; go_simp; done)) rfl ⟨fun _ => rfl, fun h => ?_, ?_⟩
        · rw [← HS.out.2.1] at h; cases h
        · (repeat' (first | (with_reducible exact Below.refl _ _) | (with_reducible assumption) | (with_reducible refine Below.alloc ?_ ?_ _) | (with_reducible refine Below.drew ?_) | (with_reducible refine below_drewN ?_ _) | (with_reducible refine Below.setCell ?_ ?_ _) | (with_reducible refine chain ?_ (by assumption) ?_) | omega | (simp; done) | (simp; omega)))
    | succ m =>
      have hlt : j < n := by omega
      have j1 : (j : Int) < (n : Int) := by omega
      obtain ⟨x, hx⟩ : ∃ x, xs[j]? = some x := ⟨_, List.getElem?_eq_getElem (by rw [HN.out]; exact hlt)⟩
      obtain ⟨y, hy⟩ : ∃ y, ys[j]? = some y := ⟨_, List.getElem?_eq_getElem (by rw [HM.out]; exact hlt)⟩
      have HE : Hid (F j = (addS false x y).1 ∧ G j = (addS false x y).2) := by
        show _ ∧ _
        rw [HF.out, HG.out]; unfold addF addG; rw [getD_of hx, getD_of hy]; exact ⟨rfl, rfl⟩
      have HKx := hid (all_get (okM_iff.1 HO.out).2.2.2 hx)
      have HKy := hid (all_get (okM_iff.1 HP.out).2.2.2 hy)
      obtain ⟨g, o, rfl, hC⟩ := HA.out _ x hx
      obtain ⟨g', o', rfl, hC'⟩ := HB.out _ y hy
      obtain ⟨p0, p1, p2, p3, p4⟩ := hC.at_ (hB.block g hC.lt)
      obtain ⟨q0, q1, q2, q3, q4⟩ := hC'.at_ (hB.block g' hC'.lt)
      have hgw := hC.lt
      have hgw' := hC'.lt
      clear hC hC' hx hy
      have hl := HS.out.1
      have HL := hid hl
      clear hl
      have hvl := World.ownsRow.lt HOw.out
      have hBq := hB.size
      have nea : some (w.heap.size) ≠ v.ownBlock := fun e => by have := (hvl _ e.symm).1; omega
      have neb : some (w.heap.size + 1) ≠ v.ownBlock := fun e => by have := (hvl _ e.symm).1; omega
      have nez : some (w.heap.size + 1 + 1) ≠ v.ownBlock := fun e => by have := (hvl _ e.symm).1; omega
      have nef : some (w2.heap.size) ≠ v.ownBlock := fun e => by have := (hvl _ e.symm).1; omega
      have neo : some (w2.heap.size + 1) ≠ v.ownBlock := fun e => by have := (hvl _ e.symm).1; omega
      have neg : some g ≠ v.ownBlock := fun e => by have := (hvl _ e.symm).1; omega
      have neg' : some g' ≠ v.ownBlock := fun e => by have := (hvl _ e.symm).1; omega
      go_wp2_with (fail)
      have yco2 : wr.drew.cell? ⟨w2.heap.size + 1, 2, none⟩ = some (v) := co2
      have yca2 : wr.drew.cell? ⟨w.heap.size, 2, none⟩ = some (.slice (some ⟨g, o, none⟩) n cp) := ca2
      have ycb2 : wr.drew.cell? ⟨w.heap.size + 1, 2, none⟩ = some (.slice (some ⟨g', o', none⟩) n cp') := cb2
      have yp0 : wr.drew.cell? ⟨g, o + j * 5, none⟩ = some (.int .i64 x.a) := p0
      have yp1 : wr.drew.cell? ⟨g, o + j * 5 + 1, none⟩ = some (.int .i64 x.b) := p1
      have yp2 : wr.drew.cell? ⟨g, o + j * 5 + 2, none⟩ = some (.int .i64 x.c) := p2
      have yp3 : wr.drew.cell? ⟨g, o + j * 5 + 3, none⟩ = some (.int .i64 x.d) := p3
      have yp4 : wr.drew.cell? ⟨g, o + j * 5 + 4, none⟩ = some (.int .i64 x.e) := p4
      have yq0 : wr.drew.cell? ⟨g', o' + j * 5, none⟩ = some (.int .i64 y.a) := q0
      have yq1 : wr.drew.cell? ⟨g', o' + j * 5 + 1, none⟩ = some (.int .i64 y.b) := q1
      have yq2 : wr.drew.cell? ⟨g', o' + j * 5 + 2, none⟩ = some (.int .i64 y.c) := q2
      have yq3 : wr.drew.cell? ⟨g', o' + j * 5 + 3, none⟩ = some (.int .i64 y.d) := q3
      have yq4 : wr.drew.cell? ⟨g', o' + j * 5 + 4, none⟩ = some (.int .i64 y.e) := q4
      refine wp_region_x (fun w' => w'.cell? ⟨w2.heap.size + 1, 2, none⟩ = some (v) ∧ w'.cell? ⟨w.heap.size, 2, none⟩ = some (.slice (some ⟨g, o, none⟩) n cp) ∧ w'.cell? ⟨w.heap.size + 1, 2, none⟩ = some (.slice (some ⟨g', o', none⟩) n cp') ∧ w'.cell? ⟨g, o + j * 5, none⟩ = some (.int .i64 x.a) ∧ w'.cell? ⟨g, o + j * 5 + 1, none⟩ = some (.int .i64 x.b) ∧ w'.cell? ⟨g, o + j * 5 + 2, none⟩ = some (.int .i64 x.c) ∧ w'.cell? ⟨g, o + j * 5 + 3, none⟩ = some (.int .i64 x.d) ∧ w'.cell? ⟨g, o + j * 5 + 4, none⟩ = some (.int .i64 x.e) ∧ w'.cell? ⟨g', o' + j * 5, none⟩ = some (.int .i64 y.a) ∧ w'.cell? ⟨g', o' + j * 5 + 1, none⟩ = some (.int .i64 y.b) ∧ w'.cell? ⟨g', o' + j * 5 + 2, none⟩ = some (.int .i64 y.c) ∧ w'.cell? ⟨g', o' + j * 5 + 3, none⟩ = some (.int .i64 y.d) ∧ w'.cell? ⟨g', o' + j * 5 + 4, none⟩ = some (.int .i64 y.e)) 17 (by kernel_rfl) ⟨yco2, yca2, ycb2, yp0, yp1, yp2, yp3, yp4, yq0, yq1, yq2, yq3, yq4⟩ (fun hS0 => ?_)
      refine wpAnyX_take (i := 0) (oi := _) (v := ?_) rfl (by kernel_rfl) (by kernel_rfl) (by kernel_rfl) (by kernel_rfl) (fun _ _ _ h => h) (Or.inl ⟨by rfl, ?_⟩) hS0 ?_
      rotate_left 1
      · (intro w hSw; (try dsimp only at hSw); go_simp; (try with_reducible rfl))
      try simp only [Act.put, List.setIfInBounds_toArray, List.set_cons_zero, List.set_cons_succ]
      refine wpAnyX_take (i := 1) (oi := _) (v := ?_) rfl (by kernel_rfl) (by kernel_rfl) (by kernel_rfl) (by kernel_rfl) (fun _ _ _ h => h) (Or.inl ⟨by rfl, ?_⟩) hS0 ?_
      rotate_left 1
      · (intro w hSw; (try dsimp only at hSw); go_simp; (try with_reducible rfl))
      try simp only [Act.put, List.setIfInBounds_toArray, List.set_cons_zero, List.set_cons_succ]
      refine wpAnyX_take (i := 2) (oi := _) (v := ?_) rfl (by kernel_rfl) (by kernel_rfl) (by kernel_rfl) (by kernel_rfl) (fun _ _ _ h => h) (Or.inl ⟨by rfl, ?_⟩) hS0 ?_
      rotate_left 1
      · (intro w hSw; (try dsimp only at hSw); go_simp; (try with_reducible rfl))
      try simp only [Act.put, List.setIfInBounds_toArray, List.set_cons_zero, List.set_cons_succ]
      refine wpAnyX_take (i := 3) (oi := _) (v := ?_) rfl (by kernel_rfl) (by kernel_rfl) (by kernel_rfl) (by kernel_rfl) (fun _ _ _ h => h) (Or.inl ⟨by rfl, ?_⟩) hS0 ?_
      rotate_left 1
      · (intro w hSw; (try dsimp only at hSw); go_simp; (try with_reducible rfl))
      try simp only [Act.put, List.setIfInBounds_toArray, List.set_cons_zero, List.set_cons_succ]
      refine wpAnyX_take (i := 4) (oi := _) (v := ?_) rfl (by kernel_rfl) (by kernel_rfl) (by kernel_rfl) (by kernel_rfl) (fun _ _ _ h => h) (Or.inl ⟨by rfl, ?_⟩) hS0 ?_
      rotate_left 1
      · (intro w hSw; (try dsimp only at hSw); go_simp; (try with_reducible rfl))
      try simp only [Act.put, List.setIfInBounds_toArray, List.set_cons_zero, List.set_cons_succ]
      refine wpAnyX_take (i := 5) (oi := _) (v := ?_) rfl (by kernel_rfl) (by kernel_rfl) (by kernel_rfl) (by kernel_rfl) (fun _ _ _ h => h) (Or.inl ⟨by rfl, ?_⟩) hS0 ?_
      rotate_left 1
      · (intro w hSw; (try dsimp only at hSw); go_simp; (try with_reducible rfl))
      try simp only [Act.put, List.setIfInBounds_toArray, List.set_cons_zero, List.set_cons_succ]
      refine wpAnyX_take (i := 6) (oi := _) (v := ?_) rfl (by kernel_rfl) (by kernel_rfl) (by kernel_rfl) (by kernel_rfl) (fun _ _ _ h => h) (Or.inl ⟨by rfl, ?_⟩) hS0 ?_
      rotate_left 1
      · (intro w hSw; (try dsimp only at hSw); go_simp; (try with_reducible rfl))
      try simp only [Act.put, List.setIfInBounds_toArray, List.set_cons_zero, List.set_cons_succ]
      refine wpAnyX_take (i := 7) (oi := _) (v := ?_) rfl (by kernel_rfl) (by kernel_rfl) (by kernel_rfl) (by kernel_rfl) (fun _ _ _ h => h) (Or.inl ⟨by rfl, ?_⟩) hS0 ?_
      rotate_left 1
      · (intro w hSw; (try dsimp only at hSw); go_simp; (try with_reducible rfl))
      try simp only [Act.put, List.setIfInBounds_toArray, List.set_cons_zero, List.set_cons_succ]
      refine wpAnyX_take (i := 8) (oi := _) (v := ?_) rfl (by kernel_rfl) (by kernel_rfl) (by kernel_rfl) (by kernel_rfl) (fun _ _ _ h => h) (Or.inl ⟨by rfl, ?_⟩) hS0 ?_
      rotate_left 1
      · (intro w hSw; (try dsimp only at hSw); go_simp; (try with_reducible rfl))
      try simp only [Act.put, List.setIfInBounds_toArray, List.set_cons_zero, List.set_cons_succ]
      refine wpAnyX_take (i := 9) (oi := _) (v := ?_) rfl (by kernel_rfl) (by kernel_rfl) (by kernel_rfl) (by kernel_rfl) (fun _ _ _ h => h) (Or.inl ⟨by rfl, ?_⟩) hS0 ?_
      rotate_left 1
      · (intro w hSw; (try dsimp only at hSw); go_simp; (try with_reducible rfl))
      try simp only [Act.put, List.setIfInBounds_toArray, List.set_cons_zero, List.set_cons_succ]
      refine wpAnyX_take (i := 10) (oi := _) (v := ?_) rfl (by kernel_rfl) (by kernel_rfl) (by kernel_rfl) (by kernel_rfl) (fun _ _ _ h => h) (Or.inl ⟨by rfl, ?_⟩) hS0 ?_
      rotate_left 1
      · (intro w hSw; (try dsimp only at hSw); go_simp; (try with_reducible rfl))
      try simp only [Act.put, List.setIfInBounds_toArray, List.set_cons_zero, List.set_cons_succ]
      refine wpAnyX_take (i := 11) (oi := _) (v := ?_) rfl (by kernel_rfl) (by kernel_rfl) (by kernel_rfl) (by kernel_rfl) (fun _ _ _ h => h) (Or.inl ⟨by rfl, ?_⟩) hS0 ?_
      rotate_left 1
      · (intro w hSw; (try dsimp only at hSw); go_simp; (try with_reducible rfl))
      try simp only [Act.put, List.setIfInBounds_toArray, List.set_cons_zero, List.set_cons_succ]
      refine wpAnyX_take (i := 12) (oi := _) (v := ?_) rfl (by kernel_rfl) (by kernel_rfl) (by kernel_rfl) (by kernel_rfl) (fun _ _ _ h => h) (Or.inl ⟨by rfl, ?_⟩) hS0 ?_
      rotate_left 1
      · (intro w hSw; (try dsimp only at hSw); go_simp; (try with_reducible rfl))
      try simp only [Act.put, List.setIfInBounds_toArray, List.set_cons_zero, List.set_cons_succ]
      refine wpAnyX_one (i := 13) (o := _) rfl (by kernel_rfl) (fun K hK => ?_)
      go_simp
      refine (cadd (x := x) (y := y) (z := z) HKx.out HKy.out (by exact cf0) (by exact ff 0)).mono ?_
      rintro ee w8 ⟨rfl, hb8⟩
      have hb9 := bad_drew hb8
      have hz8 := bad_size hb9
      refine hK.out _ _ (fun _ => ?_) (fun hS1 => ?_)
      · exact ⟨kbad hb8 (by omega) (hS0.1), kbad hb8 (by omega) (hS0.2.1), kbad hb8 (by omega) (hS0.2.2.1), kbad hb8 (by omega) (hS0.2.2.2.1), kbad hb8 (by omega) (hS0.2.2.2.2.1), kbad hb8 (by omega) (hS0.2.2.2.2.2.1), kbad hb8 (by omega) (hS0.2.2.2.2.2.2.1), kbad hb8 (by omega) (hS0.2.2.2.2.2.2.2.1), kbad hb8 (by omega) (hS0.2.2.2.2.2.2.2.2.1), kbad hb8 (by omega) (hS0.2.2.2.2.2.2.2.2.2.1), kbad hb8 (by omega) (hS0.2.2.2.2.2.2.2.2.2.2.1), kbad hb8 (by omega) (hS0.2.2.2.2.2.2.2.2.2.2.2.1), kbad hb8 (by omega) (hS0.2.2.2.2.2.2.2.2.2.2.2.2)⟩
      clear hK K
      have hS1 := hS1 (by decide)
      try simp only [Act.put, List.setIfInBounds_toArray, List.set_cons_zero, List.set_cons_succ]
      refine wpAnyX_one (i := 14) (o := _) rfl (by kernel_rfl) (fun K hK => ?_)
      go_simp
      refine hK.out _ _ (fun _ => ?_) (fun hS2 => ?_)
      · first | exact ⟨kal (hS1.1), kal (hS1.2.1), kal (hS1.2.2.1), kal (hS1.2.2.2.1), kal (hS1.2.2.2.2.1), kal (hS1.2.2.2.2.2.1), kal (hS1.2.2.2.2.2.2.1), kal (hS1.2.2.2.2.2.2.2.1), kal (hS1.2.2.2.2.2.2.2.2.1), kal (hS1.2.2.2.2.2.2.2.2.2.1), kal (hS1.2.2.2.2.2.2.2.2.2.2.1), kal (hS1.2.2.2.2.2.2.2.2.2.2.2.1), kal (hS1.2.2.2.2.2.2.2.2.2.2.2.2)⟩ | exact ⟨kald (hS1.1), kald (hS1.2.1), kald (hS1.2.2.1), kald (hS1.2.2.2.1), kald (hS1.2.2.2.2.1), kald (hS1.2.2.2.2.2.1), kald (hS1.2.2.2.2.2.2.1), kald (hS1.2.2.2.2.2.2.2.1), kald (hS1.2.2.2.2.2.2.2.2.1), kald (hS1.2.2.2.2.2.2.2.2.2.1), kald (hS1.2.2.2.2.2.2.2.2.2.2.1), kald (hS1.2.2.2.2.2.2.2.2.2.2.2.1), kald (hS1.2.2.2.2.2.2.2.2.2.2.2.2)⟩
      clear hK K
      have hS2 := hS2 (by decide)
      try simp only [Act.put, List.setIfInBounds_toArray, List.set_cons_zero, List.set_cons_succ]
      refine wpAnyX_one (i := 15) (o := _) rfl (by kernel_rfl) (fun K hK => ?_)
      refine step_append_lies _ (by rfl) _ _ _ (by rfl) (w2.heap.size + 1 + 1) 37 i0 _ 5 40 Try.underlying24 hi0 hu0 hu1 hu2 rfl (by omega) v j (csL zs) (by rfl) (World.ownsRow.alloc (by have := HOw.out.badly hb9 (by omega); unfold Own5 at this; rw [HL.out] at this; exact this) _) ⟨w8.heap.size, 0, none⟩ 1 1 (addS z x y).1.cs (by rfl) (by rfl) (World.news_of_block (cs := (addS z x y).1.cs.toArray) (t := 37) (fr := (0, 0)) (heap_alloc_new _ _)) (by simp [D5.cs, Value.oneCell']) (by omega) (append_ok (by omega)).1 (append_ok (by omega)).2 (by simp; omega) (w8.heap.size + 1) (by simp) ?_
      intro gg cap w9 hown9 hgrow9 hat9 hlt9
      refine hK.out _ _ (fun _ => ?_) (fun hS3 => ?_)
      · exact ⟨hgrow9.cell (hS2.1) neo, hgrow9.cell (hS2.2.1) nea, hgrow9.cell (hS2.2.2.1) neb, hgrow9.cell (hS2.2.2.2.1) neg, hgrow9.cell (hS2.2.2.2.2.1) neg, hgrow9.cell (hS2.2.2.2.2.2.1) neg, hgrow9.cell (hS2.2.2.2.2.2.2.1) neg, hgrow9.cell (hS2.2.2.2.2.2.2.2.1) neg, hgrow9.cell (hS2.2.2.2.2.2.2.2.2.1) neg', hgrow9.cell (hS2.2.2.2.2.2.2.2.2.2.1) neg', hgrow9.cell (hS2.2.2.2.2.2.2.2.2.2.2.1) neg', hgrow9.cell (hS2.2.2.2.2.2.2.2.2.2.2.2.1) neg', hgrow9.cell (hS2.2.2.2.2.2.2.2.2.2.2.2.2) neg'⟩
      clear hK K
      have hS3 := hS3 (by decide)
      try simp only [Act.put, List.setIfInBounds_toArray, List.set_cons_zero, List.set_cons_succ]
      refine wpAnyX_take (i := 16) (oi := _) (v := ?_) rfl (by kernel_rfl) (by kernel_rfl) (by kernel_rfl) (by kernel_rfl) (fun _ _ _ h => h) (Or.inl ⟨by rfl, ?_⟩) hS3 ?_
      rotate_left 1
      · (intro w hSw; (try dsimp only at hSw); go_simp; (try with_reducible rfl))
      try simp only [Act.put, List.setIfInBounds_toArray, List.set_cons_zero, List.set_cons_succ]
      refine wpAnyX_one (i := 17) (o := _) rfl (by kernel_rfl) (fun K hK => ?_)
      have Yo := (Bx.alloc (Xo.out.badly hb9 (by omega)) _).grown hgrow9 neo
      have yo2 := Yo.c 2 rfl
      have yof := Yo.f 2
      go_simp
      refine hK.out _ _ (fun h => absurd rfl h) (fun _ => ?_)
      clear hK K
      try simp only [Act.put, List.setIfInBounds_toArray, List.set_cons_zero, List.set_cons_succ]
      refine wpAnyX_done (by kernel_rfl) ?_ _
      go_wp2_with (fail)
      go_roundg m
      case measure => omega
      case rel =>
        have hz9 := hgrow9.size
        simp only [World.size_alloc] at hz9
        have Ya := (Bx.alloc (Xa.out.badly hb9 (by omega)) _).grown hgrow9 nea
        have Yb := (Bx.alloc (Xb.out.badly hb9 (by omega)) _).grown hgrow9 neb
        have Yz := (Bx.alloc (Xz.out.badly hb9 (by omega)) _).grown hgrow9 nez
        have Yf := (Bx.alloc (Xf.out.bad hb9) _).grown hgrow9 nef
        refine ⟨j + 1, .slice (some ⟨gg, 0, none⟩) (j + 1) cap, (addS z x y).2, zs ++ [(addS z x y).1], by omega, by go_num, Ya.far (by omega), Yb.far (by omega), Yz.far (by omega), Yf.far (by omega), Yo.set rfl, ?_, ?_, by (try simp only [World.size_setCell]); omega, ?_⟩
        · show Own5 _ _ _ _ _
          exact (Own5.snoc HL.out hown9).far (by show w2.heap.size + 1 < _; omega) _
        · exact HS.out.next (fun h => by rw [h, HE.out.1, HE.out.2]) (fun h => by rw [h]; exact addS_t)
        · refine Below.setCell ?_ (by show w.heap.size ≤ w2.heap.size + 1; omega) _
          refine Below.grown ((bad_below hB hb9 (by omega)).alloc (by omega) _) hgrow9 (by simp only [World.size_alloc]; omega) (fun q e => by have := (hvl _ e).1; omega)

end Go.Proofs.Ytncgccpkbneagaa
namespace Go.Proofs.Ytncgccpkbneagaa
open Go.RowKit RM
set_option linter.unusedVariables false
set_option linter.unusedSimpArgs false
attribute [local irreducible] World.setCell

/-- what a program's function of matrices answers -/
def IR (w w' : World) (ee : Ending) (r c : Int) (n : Nat) (zs : List D5) (bad : Bool) : Prop :=
  (bad = true → ee = .returned (mt 0 0 none 0 0 false)) ∧ (bad = false → ∃ g : Nat, ee = .returned (mt r c (some ⟨g, 0, none⟩) n n true) ∧ Bk w' g 37 zs ∧ w.heap.size ≤ g) ∧ Below w.heap.size w w'
theorem size5 : (Try.prog.info? 37).map (·.size) = some 5 := by kernel_rfl
theorem arow0 {g m cs c' N : Nat} {A : Option Addr} {f : Nat → D5} {ys : List D5} {w : World} (hG : Bk w g 37 (tab N f)) (hA : Rd w A ys) (hm : ys.length = m) (hk : m ≤ N) (hN : N ≤ 1024) (hcs : m ≤ cs) (hcs2 : cs ≤ 1048576) (hc : m ≤ c') (hc2 : c' ≤ 1048576) (hne : ∀ a, A = some a → a.block ≠ g) (ho1 : ∀ i, i < m → (f i).ok = true) (ho2 : allB ys = true) :
    Calls Try.prog 73 #[.slice (some ⟨g, 0, none⟩) m cs, .slice A m c'] w fun ee w' => AR w w' ee g (tab N (addP f ys 0 m)) (anyB m (addH f ys 0)) := by
  have h := arow (k := 0) hG hA hm (by omega) hN hcs hcs2 hc hc2 hne (fun i hi => by rw [Nat.zero_add]; exact ho1 i hi) ho2
  simp only [Nat.zero_mul] at h
  exact h
theorem MR.law {w w' : World} {ee : Ending} {r c : Int} {n : Nat} {zs : List D5} (h : MR w w' ee r c n zs false) : ∃ A cp, ee = .returned (mt r c A n cp true) ∧ (Rd w' A zs ∧ (∀ a, A = some a → w.heap.size ≤ a.block)) ∧ Below w.heap.size w w' := by
  obtain ⟨B, cq, he, hr, ha⟩ := h.2.1 rfl
  exact ⟨B, cq, he, ⟨hr, ha⟩, h.2.2⟩
theorem MR.bad {w w' : World} {ee : Ending} {r c : Int} {n : Nat} {zs : List D5} (h : MR w w' ee r c n zs true) : ∃ A cp, ee = .returned (mt 0 0 A 0 cp false) ∧ (Rd w' A [] ∧ (∀ a, A = some a → w.heap.size ≤ a.block)) ∧ Below w.heap.size w w' :=
  ⟨none, 0, h.1 rfl, ⟨Rd.nil _ _, fun a ha => (by cases ha)⟩, h.2.2⟩
theorem IR.law {w w' : World} {ee : Ending} {r c : Int} {n : Nat} {zs : List D5} (h : IR w w' ee r c n zs false) : ∃ A cp, ee = .returned (mt r c A n cp true) ∧ (Ow w' w.heap.size 37 A zs) ∧ Below w.heap.size w w' := by
  obtain ⟨g, he, hk, hg⟩ := h.2.1 rfl
  exact ⟨some ⟨g, 0, none⟩, n, he, hk.ow hg, h.2.2⟩
theorem IR.bad {w w' : World} {ee : Ending} {r c : Int} {n : Nat} {zs : List D5} (h : IR w w' ee r c n zs true) : ∃ A cp, ee = .returned (mt 0 0 A 0 cp false) ∧ (Ow w' w.heap.size 37 A []) ∧ Below w.heap.size w w' :=
  ⟨none, 0, h.1 rfl, Or.inl ⟨rfl, rfl⟩, h.2.2⟩
theorem zero_law {w w' : World} {ee : Ending} (h : ee = .returned (mt 0 0 none 0 0 false) ∧ Below w.heap.size w w') : ∃ A cp, ee = .returned (mt 0 0 A 0 cp false) ∧ (Rd w' A [] ∧ (∀ a, A = some a → w.heap.size ≤ a.block)) ∧ Below w.heap.size w w' :=
  ⟨none, 0, h.1, ⟨Rd.nil _ _, fun a ha => (by cases ha)⟩, h.2⟩
theorem zero_lawI {w w' : World} {ee : Ending} (h : ee = .returned (mt 0 0 none 0 0 false) ∧ Below w.heap.size w w') : ∃ A cp, ee = .returned (mt 0 0 A 0 cp false) ∧ (Ow w' w.heap.size 37 A []) ∧ Below w.heap.size w w' :=
  ⟨none, 0, h.1, Or.inl ⟨rfl, rfl⟩, h.2⟩

set_option maxRecDepth 100000 in
set_option maxHeartbeats 4000000 in
theorem mad_i_v1 {r c r' c' : Int} {g0 h0 n m cp cp' : Nat} {xs ys : List D5} {w : World} (hA : Rd w (some ⟨g0, 0, none⟩) xs) (hB : Rd w (some ⟨h0, 0, none⟩) ys) (hn : xs.length = n) (hm : ys.length = m) (hok : okM r c n xs = false) :
    Calls Try.prog 34 #[mv r c (some ⟨g0, 0, none⟩) n cp, mv r' c' (some ⟨h0, 0, none⟩) m cp'] w fun ee w' => ee = .returned (mt 0 0 none 0 0 false) ∧ Below w.heap.size w w' := by
  have HA := hid hA
  have HB := hid hB
  have HN := hid hn
  have HM := hid hm
  have HO := hid hok
  clear hA hB hn hm hok
  go_enter Try.func34, Try.ntmps34
  go_wp2_with (fail)
  refine (vm_i_f (xs := xs) HO.out ?_ HN.out).mono ?_
  · exact HA.out.mono (by (repeat' (first | (with_reducible exact Below.refl _ _) | (with_reducible assumption) | (with_reducible refine Below.alloc ?_ ?_ _) | (with_reducible refine Below.drew ?_) | (with_reducible refine below_drewN ?_ _) | (with_reducible refine Below.setCell ?_ ?_ _) | (with_reducible refine chain ?_ (by assumption) ?_) | omega | (simp; done) | (simp; omega))))
  rintro ee w1 ⟨rfl, hb1⟩
  have hw1 : Below w.heap.size w w1 := by (repeat' (first | (with_reducible exact Below.refl _ _) | (with_reducible assumption) | (with_reducible refine Below.alloc ?_ ?_ _) | (with_reducible refine Below.drew ?_) | (with_reducible refine below_drewN ?_ _) | (with_reducible refine Below.setCell ?_ ?_ _) | (with_reducible refine chain ?_ (by assumption) ?_) | omega | (simp; done) | (simp; omega)))
  obtain ⟨hc1, hf1, _⟩ := bcell hb1; have hz1 := hb1.size; (try simp at hz1); (try have hx10 : w.heap.size < w1.heap.size := (by omega)); (try have hx11 : w.heap.size + 1 < w1.heap.size := (by omega)); (try have hx12 : w.heap.size + 1 + 1 < w1.heap.size := (by omega)); (try have hx13 : w.heap.size + 1 + 1 + 1 < w1.heap.size := (by omega))
  go_wp2_with (fail)
  refine bodyPost_ret (v := mt 0 0 none 0 0 false) (by first | (simp [results, Try.results34, go_sem, *]; done) | (simp (disch := (first | omega | (simp; done) | (simp; omega))) [results, Try.results34, go_sem, *]; done) | (simp only [results, Try.results34]; go_simp; done)) rfl ⟨rfl, ?_⟩
  (repeat' (first | (with_reducible exact Below.refl _ _) | (with_reducible assumption) | (with_reducible refine Below.alloc ?_ ?_ _) | (with_reducible refine Below.drew ?_) | (with_reducible refine below_drewN ?_ _) | (with_reducible refine Below.setCell ?_ ?_ _) | (with_reducible refine chain ?_ (by assumption) ?_) | omega | (simp; done) | (simp; omega)))

set_option maxRecDepth 100000 in
set_option maxHeartbeats 4000000 in
theorem mad_i_v2 {r c r' c' : Int} {g0 h0 n m cp cp' : Nat} {xs ys : List D5} {w : World} (hA : Rd w (some ⟨g0, 0, none⟩) xs) (hB : Rd w (some ⟨h0, 0, none⟩) ys) (hn : xs.length = n) (hm : ys.length = m) (hok : okM r c n xs = true) (hok2 : okM r' c' m ys = false) :
    Calls Try.prog 34 #[mv r c (some ⟨g0, 0, none⟩) n cp, mv r' c' (some ⟨h0, 0, none⟩) m cp'] w fun ee w' => ee = .returned (mt 0 0 none 0 0 false) ∧ Below w.heap.size w w' := by
  have HA := hid hA
  have HB := hid hB
  have HN := hid hn
  have HM := hid hm
  have HO := hid hok
  have HP := hid hok2
  clear hA hB hn hm hok hok2
  go_enter Try.func34, Try.ntmps34
  go_wp2_with (fail)
  refine (vm_i_t (xs := xs) HO.out ?_ HN.out).mono ?_
  · exact HA.out.mono (by (repeat' (first | (with_reducible exact Below.refl _ _) | (with_reducible assumption) | (with_reducible refine Below.alloc ?_ ?_ _) | (with_reducible refine Below.drew ?_) | (with_reducible refine below_drewN ?_ _) | (with_reducible refine Below.setCell ?_ ?_ _) | (with_reducible refine chain ?_ (by assumption) ?_) | omega | (simp; done) | (simp; omega))))
  rintro ee w1 ⟨rfl, hb1⟩
  have hw1 : Below w.heap.size w w1 := by (repeat' (first | (with_reducible exact Below.refl _ _) | (with_reducible assumption) | (with_reducible refine Below.alloc ?_ ?_ _) | (with_reducible refine Below.drew ?_) | (with_reducible refine below_drewN ?_ _) | (with_reducible refine Below.setCell ?_ ?_ _) | (with_reducible refine chain ?_ (by assumption) ?_) | omega | (simp; done) | (simp; omega)))
  obtain ⟨hc1, hf1, _⟩ := bcell hb1; have hz1 := hb1.size; (try simp at hz1); (try have hx10 : w.heap.size < w1.heap.size := (by omega)); (try have hx11 : w.heap.size + 1 < w1.heap.size := (by omega)); (try have hx12 : w.heap.size + 1 + 1 < w1.heap.size := (by omega)); (try have hx13 : w.heap.size + 1 + 1 + 1 < w1.heap.size := (by omega))
  go_wp2_with (fail)
  refine (vm_i_f (xs := ys) HP.out ?_ HM.out).mono ?_
  · exact HB.out.mono (by (repeat' (first | (with_reducible exact Below.refl _ _) | (with_reducible assumption) | (with_reducible refine Below.alloc ?_ ?_ _) | (with_reducible refine Below.drew ?_) | (with_reducible refine below_drewN ?_ _) | (with_reducible refine Below.setCell ?_ ?_ _) | (with_reducible refine chain ?_ (by assumption) ?_) | omega | (simp; done) | (simp; omega))))
  rintro ee w2 ⟨rfl, hb2⟩
  have hw2 : Below w.heap.size w w2 := by (repeat' (first | (with_reducible exact Below.refl _ _) | (with_reducible assumption) | (with_reducible refine Below.alloc ?_ ?_ _) | (with_reducible refine Below.drew ?_) | (with_reducible refine below_drewN ?_ _) | (with_reducible refine Below.setCell ?_ ?_ _) | (with_reducible refine chain ?_ (by assumption) ?_) | omega | (simp; done) | (simp; omega)))
  obtain ⟨hc2, hf2, _⟩ := bcell hb2; have hz2 := hb2.size; (try simp at hz2); (try have hx20 : w.heap.size < w2.heap.size := (by omega)); (try have hx21 : w.heap.size + 1 < w2.heap.size := (by omega)); (try have hx22 : w.heap.size + 1 + 1 < w2.heap.size := (by omega)); (try have hx23 : w.heap.size + 1 + 1 + 1 < w2.heap.size := (by omega))
  go_wp2_with (fail)
  refine bodyPost_ret (v := mt 0 0 none 0 0 false) (by first | (simp [results, Try.results34, go_sem, *]; done) | (simp (disch := (first | omega | (simp; done) | (simp; omega))) [results, Try.results34, go_sem, *]; done) | (simp only [results, Try.results34]; go_simp; done)) rfl ⟨rfl, ?_⟩
  (repeat' (first | (with_reducible exact Below.refl _ _) | (with_reducible assumption) | (with_reducible refine Below.alloc ?_ ?_ _) | (with_reducible refine Below.drew ?_) | (with_reducible refine below_drewN ?_ _) | (with_reducible refine Below.setCell ?_ ?_ _) | (with_reducible refine chain ?_ (by assumption) ?_) | omega | (simp; done) | (simp; omega)))

set_option maxRecDepth 100000 in
set_option maxHeartbeats 4000000 in
theorem mad_i_r {r c r' c' : Int} {g0 h0 n m cp cp' : Nat} {xs ys : List D5} {w : World} (hA : Rd w (some ⟨g0, 0, none⟩) xs) (hB : Rd w (some ⟨h0, 0, none⟩) ys) (hn : xs.length = n) (hm : ys.length = m) (hok : okM r c n xs = true) (hok2 : okM r' c' m ys = true) (hr : r ≠ r') :
    Calls Try.prog 34 #[mv r c (some ⟨g0, 0, none⟩) n cp, mv r' c' (some ⟨h0, 0, none⟩) m cp'] w fun ee w' => ee = .returned (mt 0 0 none 0 0 false) ∧ Below w.heap.size w w' := by
  have h1 : (r != r') = true := by simpa using hr
  have HA := hid hA
  have HB := hid hB
  have HN := hid hn
  have HM := hid hm
  have HO := hid hok
  have HP := hid hok2
  clear hA hB hn hm hok hok2 hr
  go_enter Try.func34, Try.ntmps34
  go_wp2_with (fail)
  refine (vm_i_t (xs := xs) HO.out ?_ HN.out).mono ?_
  · exact HA.out.mono (by (repeat' (first | (with_reducible exact Below.refl _ _) | (with_reducible assumption) | (with_reducible refine Below.alloc ?_ ?_ _) | (with_reducible refine Below.drew ?_) | (with_reducible refine below_drewN ?_ _) | (with_reducible refine Below.setCell ?_ ?_ _) | (with_reducible refine chain ?_ (by assumption) ?_) | omega | (simp; done) | (simp; omega))))
  rintro ee w1 ⟨rfl, hb1⟩
  have hw1 : Below w.heap.size w w1 := by (repeat' (first | (with_reducible exact Below.refl _ _) | (with_reducible assumption) | (with_reducible refine Below.alloc ?_ ?_ _) | (with_reducible refine Below.drew ?_) | (with_reducible refine below_drewN ?_ _) | (with_reducible refine Below.setCell ?_ ?_ _) | (with_reducible refine chain ?_ (by assumption) ?_) | omega | (simp; done) | (simp; omega)))
  obtain ⟨hc1, hf1, _⟩ := bcell hb1; have hz1 := hb1.size; (try simp at hz1); (try have hx10 : w.heap.size < w1.heap.size := (by omega)); (try have hx11 : w.heap.size + 1 < w1.heap.size := (by omega)); (try have hx12 : w.heap.size + 1 + 1 < w1.heap.size := (by omega)); (try have hx13 : w.heap.size + 1 + 1 + 1 < w1.heap.size := (by omega))
  go_wp2_with (fail)
  refine (vm_i_t (xs := ys) HP.out ?_ HM.out).mono ?_
  · exact HB.out.mono (by (repeat' (first | (with_reducible exact Below.refl _ _) | (with_reducible assumption) | (with_reducible refine Below.alloc ?_ ?_ _) | (with_reducible refine Below.drew ?_) | (with_reducible refine below_drewN ?_ _) | (with_reducible refine Below.setCell ?_ ?_ _) | (with_reducible refine chain ?_ (by assumption) ?_) | omega | (simp; done) | (simp; omega))))
  rintro ee w2 ⟨rfl, hb2⟩
  have hw2 : Below w.heap.size w w2 := by (repeat' (first | (with_reducible exact Below.refl _ _) | (with_reducible assumption) | (with_reducible refine Below.alloc ?_ ?_ _) | (with_reducible refine Below.drew ?_) | (with_reducible refine below_drewN ?_ _) | (with_reducible refine Below.setCell ?_ ?_ _) | (with_reducible refine chain ?_ (by assumption) ?_) | omega | (simp; done) | (simp; omega)))
  obtain ⟨hc2, hf2, _⟩ := bcell hb2; have hz2 := hb2.size; (try simp at hz2); (try have hx20 : w.heap.size < w2.heap.size := (by omega)); (try have hx21 : w.heap.size + 1 < w2.heap.size := (by omega)); (try have hx22 : w.heap.size + 1 + 1 < w2.heap.size := (by omega)); (try have hx23 : w.heap.size + 1 + 1 + 1 < w2.heap.size := (by omega))
  go_wp2_with (fail)
  refine bodyPost_ret (v := mt 0 0 none 0 0 false) (by first | (simp [results, Try.results34, go_sem, *]; done) | (simp (disch := (first | omega | (simp; done) | (simp; omega))) [results, Try.results34, go_sem, *]; done) | (simp only [results, Try.results34]; go_simp; done)) rfl ⟨rfl, ?_⟩
  (repeat' (first | (with_reducible exact Below.refl _ _) | (with_reducible assumption) | (with_reducible refine Below.alloc ?_ ?_ _) | (with_reducible refine Below.drew ?_) | (with_reducible refine below_drewN ?_ _) | (with_reducible refine Below.setCell ?_ ?_ _) | (with_reducible refine chain ?_ (by assumption) ?_) | omega | (simp; done) | (simp; omega)))

set_option maxRecDepth 100000 in
set_option maxHeartbeats 4000000 in
theorem mad_i_c {r c r' c' : Int} {g0 h0 n m cp cp' : Nat} {xs ys : List D5} {w : World} (hA : Rd w (some ⟨g0, 0, none⟩) xs) (hB : Rd w (some ⟨h0, 0, none⟩) ys) (hn : xs.length = n) (hm : ys.length = m) (hok : okM r c n xs = true) (hok2 : okM r' c' m ys = true) (hr : r = r') (hc : c ≠ c') :
    Calls Try.prog 34 #[mv r c (some ⟨g0, 0, none⟩) n cp, mv r' c' (some ⟨h0, 0, none⟩) m cp'] w fun ee w' => ee = .returned (mt 0 0 none 0 0 false) ∧ Below w.heap.size w w' := by
  subst hr
  have h1 : (c != c') = true := by simpa using hc
  have HA := hid hA
  have HB := hid hB
  have HN := hid hn
  have HM := hid hm
  have HO := hid hok
  have HP := hid hok2
  clear hA hB hn hm hok hok2 hc
  go_enter Try.func34, Try.ntmps34
  go_wp2_with (fail)
  refine (vm_i_t (xs := xs) HO.out ?_ HN.out).mono ?_
  · exact HA.out.mono (by (repeat' (first | (with_reducible exact Below.refl _ _) | (with_reducible assumption) | (with_reducible refine Below.alloc ?_ ?_ _) | (with_reducible refine Below.drew ?_) | (with_reducible refine below_drewN ?_ _) | (with_reducible refine Below.setCell ?_ ?_ _) | (with_reducible refine chain ?_ (by assumption) ?_) | omega | (simp; done) | (simp; omega))))
  rintro ee w1 ⟨rfl, hb1⟩
  have hw1 : Below w.heap.size w w1 := by (repeat' (first | (with_reducible exact Below.refl _ _) | (with_reducible assumption) | (with_reducible refine Below.alloc ?_ ?_ _) | (with_reducible refine Below.drew ?_) | (with_reducible refine below_drewN ?_ _) | (with_reducible refine Below.setCell ?_ ?_ _) | (with_reducible refine chain ?_ (by assumption) ?_) | omega | (simp; done) | (simp; omega)))
  obtain ⟨hc1, hf1, _⟩ := bcell hb1; have hz1 := hb1.size; (try simp at hz1); (try have hx10 : w.heap.size < w1.heap.size := (by omega)); (try have hx11 : w.heap.size + 1 < w1.heap.size := (by omega)); (try have hx12 : w.heap.size + 1 + 1 < w1.heap.size := (by omega)); (try have hx13 : w.heap.size + 1 + 1 + 1 < w1.heap.size := (by omega))
  go_wp2_with (fail)
  refine (vm_i_t (xs := ys) HP.out ?_ HM.out).mono ?_
  · exact HB.out.mono (by (repeat' (first | (with_reducible exact Below.refl _ _) | (with_reducible assumption) | (with_reducible refine Below.alloc ?_ ?_ _) | (with_reducible refine Below.drew ?_) | (with_reducible refine below_drewN ?_ _) | (with_reducible refine Below.setCell ?_ ?_ _) | (with_reducible refine chain ?_ (by assumption) ?_) | omega | (simp; done) | (simp; omega))))
  rintro ee w2 ⟨rfl, hb2⟩
  have hw2 : Below w.heap.size w w2 := by (repeat' (first | (with_reducible exact Below.refl _ _) | (with_reducible assumption) | (with_reducible refine Below.alloc ?_ ?_ _) | (with_reducible refine Below.drew ?_) | (with_reducible refine below_drewN ?_ _) | (with_reducible refine Below.setCell ?_ ?_ _) | (with_reducible refine chain ?_ (by assumption) ?_) | omega | (simp; done) | (simp; omega)))
  obtain ⟨hc2, hf2, _⟩ := bcell hb2; have hz2 := hb2.size; (try simp at hz2); (try have hx20 : w.heap.size < w2.heap.size := (by omega)); (try have hx21 : w.heap.size + 1 < w2.heap.size := (by omega)); (try have hx22 : w.heap.size + 1 + 1 < w2.heap.size := (by omega)); (try have hx23 : w.heap.size + 1 + 1 + 1 < w2.heap.size := (by omega))
  go_wp2_with (fail)
  refine bodyPost_ret (v := mt 0 0 none 0 0 false) (by first | (simp [results, Try.results34, go_sem, *]; done) | (simp (disch := (first | omega | (simp; done) | (simp; omega))) [results, Try.results34, go_sem, *]; done) | (simp only [results, Try.results34]; go_simp; done)) rfl ⟨rfl, ?_⟩
  (repeat' (first | (with_reducible exact Below.refl _ _) | (with_reducible assumption) | (with_reducible refine Below.alloc ?_ ?_ _) | (with_reducible refine Below.drew ?_) | (with_reducible refine below_drewN ?_ _) | (with_reducible refine Below.setCell ?_ ?_ _) | (with_reducible refine chain ?_ (by assumption) ?_) | omega | (simp; done) | (simp; omega)))

set_option maxRecDepth 100000 in
set_option maxHeartbeats 8000000 in
theorem mad_i_t {R C : Nat} {g0 h0 n cp cp' : Nat} {xs ys : List D5} {w : World} (hA : Rd w (some ⟨g0, 0, none⟩) xs) (hB : Rd w (some ⟨h0, 0, none⟩) ys) (hn : xs.length = n) (hm : ys.length = n) (hok : okM (R : Int) (C : Int) n xs = true) (hok2 : okM (R : Int) (C : Int) n ys = true) (hc1 : n ≤ cp) (hc2 : cp ≤ 1048576) (hc3 : n ≤ cp') (hc4 : cp' ≤ 1048576) :
    Calls Try.prog 34 #[mv (R : Int) (C : Int) (some ⟨g0, 0, none⟩) n cp, mv (R : Int) (C : Int) (some ⟨h0, 0, none⟩) n cp'] w fun ee w' => IR w w' ee (R : Int) (C : Int) n (tab n (addF xs ys)) (anyB n (addG xs ys)) := by
  obtain ⟨hnn, h1, h2, h3, h4, h5⟩ := okM_nat2 hok
  have n1 : 0 < n := by rw [hnn]; exact Nat.mul_pos (by omega) (by omega)
  have hz2 := size5
  have HNN := hid hnn
  clear hnn
  have HA := hid hA
  have HB := hid hB
  have HN := hid hn
  have HM := hid hm
  have HO := hid hok
  have HP := hid hok2
  have h0A : g0 < w.heap.size := by
    obtain ⟨x, hx⟩ : ∃ x, xs[0]? = some x := ⟨_, List.getElem?_eq_getElem (by rw [hn]; exact n1)⟩
    exact (hA.cx hx).lt
  have h0B : h0 < w.heap.size := by
    obtain ⟨x, hx⟩ : ∃ x, ys[0]? = some x := ⟨_, List.getElem?_eq_getElem (by rw [hm]; exact n1)⟩
    exact (hB.cx hx).lt
  have HS5 := hid hz2
  clear hA hB hn hm hok hok2 hz2
  go_enter Try.func34, Try.ntmps34
  go_wp2_with (fail)
  refine (vm_i_t (xs := xs) HO.out ?_ HN.out).mono ?_
  · exact HA.out.mono (by (repeat' (first | (with_reducible exact Below.refl _ _) | (with_reducible assumption) | (with_reducible refine Below.alloc ?_ ?_ _) | (with_reducible refine Below.drew ?_) | (with_reducible refine below_drewN ?_ _) | (with_reducible refine Below.setCell ?_ ?_ _) | (with_reducible refine chain ?_ (by assumption) ?_) | omega | (simp; done) | (simp; omega))))
  rintro ee w1 ⟨rfl, hb1⟩
  obtain ⟨hc1, hf1, _⟩ := bcell hb1; have hz1 := hb1.size; (try simp at hz1); (try have hx10 : w.heap.size < w1.heap.size := (by omega)); (try have hx11 : w.heap.size + 1 < w1.heap.size := (by omega)); (try have hx12 : w.heap.size + 1 + 1 < w1.heap.size := (by omega)); (try have hx13 : w.heap.size + 1 + 1 + 1 < w1.heap.size := (by omega))
  have Xz1 : Hid (Bx w1 (w.heap.size + 1 + 1) 26 #[.int .i64 0, .int .i64 0, .slice none 0 0]) := by show Bx _ _ _ _; (repeat' (first | (with_reducible assumption) | (refine Bx.new (by first | (with_reducible rfl) | (simp; done))) | (with_reducible refine Bx.alloc ?_ _) | (with_reducible refine Bx.drew ?_) | (with_reducible refine Bx.drewN ?_ _) | (with_reducible refine Bx.mono ?_ (by assumption)) | (with_reducible refine Bx.badly ?_ (by assumption) (by omega)) | (with_reducible refine Bx.far ?_ (by (try simp only [World.size_alloc, World.size_drew]); omega)) | (with_reducible refine Bx.set ?_ rfl) | (with_reducible refine Bx.grown ?_ (by assumption) (by assumption))))
  have Xa1 : Hid (Bx w1 (w.heap.size) 26 #[.int .i64 (R : Int), .int .i64 (C : Int), .slice (some ⟨g0, 0, none⟩) n cp]) := by show Bx _ _ _ _; (repeat' (first | (with_reducible assumption) | (refine Bx.new (by first | (with_reducible rfl) | (simp; done))) | (with_reducible refine Bx.alloc ?_ _) | (with_reducible refine Bx.drew ?_) | (with_reducible refine Bx.drewN ?_ _) | (with_reducible refine Bx.mono ?_ (by assumption)) | (with_reducible refine Bx.badly ?_ (by assumption) (by omega)) | (with_reducible refine Bx.far ?_ (by (try simp only [World.size_alloc, World.size_drew]); omega)) | (with_reducible refine Bx.set ?_ rfl) | (with_reducible refine Bx.grown ?_ (by assumption) (by assumption))))
  have Xb1 : Hid (Bx w1 (w.heap.size + 1) 26 #[.int .i64 (R : Int), .int .i64 (C : Int), .slice (some ⟨h0, 0, none⟩) n cp']) := by show Bx _ _ _ _; (repeat' (first | (with_reducible assumption) | (refine Bx.new (by first | (with_reducible rfl) | (simp; done))) | (with_reducible refine Bx.alloc ?_ _) | (with_reducible refine Bx.drew ?_) | (with_reducible refine Bx.drewN ?_ _) | (with_reducible refine Bx.mono ?_ (by assumption)) | (with_reducible refine Bx.badly ?_ (by assumption) (by omega)) | (with_reducible refine Bx.far ?_ (by (try simp only [World.size_alloc, World.size_drew]); omega)) | (with_reducible refine Bx.set ?_ rfl) | (with_reducible refine Bx.grown ?_ (by assumption) (by assumption))))
  have hw1 : Below w.heap.size w w1 := by (repeat' (first | (with_reducible exact Below.refl _ _) | (with_reducible assumption) | (with_reducible refine Below.alloc ?_ ?_ _) | (with_reducible refine Below.drew ?_) | (with_reducible refine below_drewN ?_ _) | (with_reducible refine Below.setCell ?_ ?_ _) | (with_reducible refine chain ?_ (by assumption) ?_) | omega | (simp; done) | (simp; omega)))
  go_wp2_with (fail)
  refine (vm_i_t (xs := ys) HP.out ?_ HM.out).mono ?_
  · exact HB.out.mono (by (repeat' (first | (with_reducible exact Below.refl _ _) | (with_reducible assumption) | (with_reducible refine Below.alloc ?_ ?_ _) | (with_reducible refine Below.drew ?_) | (with_reducible refine below_drewN ?_ _) | (with_reducible refine Below.setCell ?_ ?_ _) | (with_reducible refine chain ?_ (by assumption) ?_) | omega | (simp; done) | (simp; omega))))
  rintro ee w2 ⟨rfl, hb2⟩
  obtain ⟨hc2, hf2, _⟩ := bcell hb2; have hz2 := hb2.size; (try simp at hz2); (try have hx20 : w.heap.size < w2.heap.size := (by omega)); (try have hx21 : w.heap.size + 1 < w2.heap.size := (by omega)); (try have hx22 : w.heap.size + 1 + 1 < w2.heap.size := (by omega)); (try have hx23 : w.heap.size + 1 + 1 + 1 < w2.heap.size := (by omega))
  have hw2 : Below w.heap.size w w2 := by (repeat' (first | (with_reducible exact Below.refl _ _) | (with_reducible assumption) | (with_reducible refine Below.alloc ?_ ?_ _) | (with_reducible refine Below.drew ?_) | (with_reducible refine below_drewN ?_ _) | (with_reducible refine Below.setCell ?_ ?_ _) | (with_reducible refine chain ?_ (by assumption) ?_) | omega | (simp; done) | (simp; omega)))
  have Xz2 := hid (Xz1.out.mono hb2)
  have Xa2 := hid (Xa1.out.mono hb2)
  have Xb2 := hid (Xb1.out.mono hb2)
  go_wp2_with (fail)
  refine (zm (r := R) (c := C) (n := n) (by rw [HNN.out]; simp) h5).mono ?_
  rintro ee w3 ⟨gz, rfl, hBz, hgz, hb3⟩
  have hz3 := hb3.size
  have hB3 : Below w.heap.size w w3 := chain hw2 hb3 hw2.size
  have hB3z := hB3.size
  have lz := hBz.lt
  obtain ⟨W, hW⟩ : ∃ W : World, W = w3.alloc (.cells #[.int .i64 (R : Int), .int .i64 (C : Int), .slice (some ⟨gz, 0, none⟩) n n] 26) := ⟨_, rfl⟩
  have hbW : Below w3.heap.size w3 W := by rw [hW]; exact (Below.refl _ _).alloc (Nat.le_refl _) _
  have XW : Hid (Bx W w3.heap.size 26 #[.int .i64 (R : Int), .int .i64 (C : Int), .slice (some ⟨gz, 0, none⟩) n n]) := by show Bx _ _ _ _; rw [hW]; exact Bx.new rfl
  have hzW : W.heap.size = w3.heap.size + 1 := by rw [hW]; simp
  have hzW1 : w3.heap.size < W.heap.size := by omega
  have HGW : Hid (Bk W gz 37 (List.replicate n z5)) := by show Bk _ _ _ _; rw [hW]; exact hBz.alloc _
  have hBW : Below w.heap.size w W := chain hB3 hbW hB3.size
  have XzW := hid ((Xz2.out.mono hb3).mono hbW)
  have XaW := hid ((Xa2.out.mono hb3).mono hbW)
  have XbW := hid ((Xb2.out.mono hb3).mono hbW)
  have ow2 := XW.out.c 2 rfl
  have aw2 := XaW.out.c 2 rfl
  have bw2 := XbW.out.c 2 rfl
  have HW := hid hW
  clear hW hzW hBz Xz1 Xa1 Xb1 Xz2 Xa2 Xb2
  go_upto_region 4 with (fail)
  rw [← HW.out]
  go_wp2_with (refine wpList_copy5 rfl (.tmp 36) (.tmp 38) 24 24 rfl 37 Try.underlying24 HS5.out gz 0 0 n n g0 0 cp rfl rfl rfl (List.replicate n z5) xs 37 HGW.out (HA.out.mono hBW) HN.out (by simp) gz W (Below.refl _ _) (Nat.le_refl _) ?_; intro w5 hK5 hb5 hk5 hz5; have co2 := (World.cell?_of_block (a := ⟨w3.heap.size, 2, none⟩) (hk5 w3.heap.size (by omega))).trans ow2; have cb2 := (World.cell?_of_block (a := ⟨w.heap.size + 1, 2, none⟩) (hk5 (w.heap.size + 1) (by omega))).trans bw2)
  have Xz5 := hid (show Bx _ _ _ _ from (hk5 _ (by omega)).trans XzW.out)
  have Xb5 := hid (show Bx _ _ _ _ from (hk5 _ (by omega)).trans XbW.out)
  have Xo5 := hid (show Bx _ _ _ _ from (hk5 _ (by omega)).trans XW.out)
  have hg5 : W.grownBy w5 (some gz) := ⟨hb5.os, hb5.tape, hb5.output, hb5.size, fun k _ hk => hk5 k (fun e => hk (by rw [e]))⟩
  have hB5 : Below w.heap.size w w5 := Below.grown hBW hg5 hBW.size (fun q e => by simp only [Option.some.injEq] at e; omega)
  have e5 : (List.replicate n z5).take 0 ++ (xs ++ (List.replicate n z5).drop (0 + n)) = tab n (fun q => xs.getD q z5) := by
    rw [List.take_zero, List.nil_append, List.drop_of_length_le (by simp), List.append_nil]
    conv => lhs; rw [list_tab xs, HN.out]
  rw [e5] at hK5
  have HK5 := hid hK5
  have HR5 : Hid (Rd w5 (some ⟨h0, 0, none⟩) ys) := HB.out.mono hB5
  clear hK5 e5 hk5 hb5 hg5 XaW XzW XbW XW HGW HW
  refine (arow0 (f := fun q => xs.getD q z5) HK5.out HR5.out HM.out (Nat.le_refl _) h5 (Nat.le_refl _) (by omega) hc3 hc4 ?_ ?_ (okM_iff.1 HP.out).2.2.2).mono ?_
  · intro a ha
    simp only [Option.some.injEq] at ha
    subst ha
    show h0 ≠ gz
    omega
  · intro i hi
    exact all_get (okM_iff.1 HO.out).2.2.2 (get_of (by rw [HN.out]; exact hi))
  rintro ee w6 ⟨hAR1, hAR2, hg6⟩
  have hz6 := hg6.size
  have hB6 : Below w.heap.size w w6 := Below.grown hB5 hg6 hB5.size (fun q e => by simp only [Option.some.injEq] at e; omega)
  have eG : anyB n (addH (fun q => xs.getD q z5) ys 0) = anyB n (addG xs ys) := anyB_congr (fun q _ => by unfold addH addG; rw [Nat.zero_add])
  have eF : tab n (addP (fun q => xs.getD q z5) ys 0 n) = tab n (addF xs ys) := tab_congr (fun q hq => by unfold addP addF; rw [if_pos (by omega), Nat.sub_zero])
  rw [eG] at hAR1 hAR2
  rw [eF] at hAR2
  have Xz6 := Xz5.out.grown hg6 (by intro e; simp only [Option.some.injEq] at e; omega)
  have Xo6 := Xo5.out.grown hg6 (by intro e; simp only [Option.some.injEq] at e; omega)
  have do0 := Xo6.c 0 rfl
  have do1 := Xo6.c 1 rfl
  have do2 := Xo6.c 2 rfl
  have cz0 := Xz6.c 0 rfl
  have cz1 := Xz6.c 1 rfl
  have cz2 := Xz6.c 2 rfl
  have fz := Xz6.f
  have lo6 := Xo6.lt
  have lz6 := Xz6.lt
  have H6 := hid hB6
  have HG6 := hid hg6
  clear Xz6 Xo6 Xz5 Xb5 Xo5 HK5 HR5 hB6 hg6 eG eF co2 cb2 ow2 aw2 bw2
  cases hany : anyB n (addG xs ys)
  · rw [hany] at hAR2
    obtain ⟨rfl, hK⟩ := hAR2 rfl
    have HK := hid hK
    have HY := hid hany
    clear hK hAR1 hAR2 hany
    go_wp2_with (fail)
    refine bodyPost_ret (v := mt (R : Int) (C : Int) (some ⟨gz, 0, none⟩) n n true) (by first | (simp [results, Try.results34, go_sem, *]; done) | (simp (disch := (first | omega | (simp; done) | (simp; omega))) [results, Try.results34, go_sem, *]; done) | (simp only [results, Try.results34]; go_simp; done)) rfl ⟨fun h => (by rw [HY.out] at h; cases h), fun _ => ⟨gz, rfl, ?_, by omega⟩, ?_⟩
    · (repeat' (first | exact HK.out | refine Bk.far ?_ (by show gz ≠ w.heap.size + 1 + 1; omega) _))
    · have hB6 := H6.out
      have hBq := hB6.size
      (repeat' (first | (with_reducible exact Below.refl _ _) | (with_reducible assumption) | (with_reducible refine Below.alloc ?_ ?_ _) | (with_reducible refine Below.drew ?_) | (with_reducible refine below_drewN ?_ _) | (with_reducible refine Below.setCell ?_ ?_ _) | (with_reducible refine chain ?_ (by assumption) ?_) | omega | (simp; done) | (simp; omega)))
  · rw [hany] at hAR1
    have he := hAR1 rfl
    subst he
    have HY := hid hany
    clear hAR1 hAR2 hany
    go_wp2_with (fail)
    refine bodyPost_ret (v := mt 0 0 none 0 0 false) (by first | (simp [results, Try.results34, go_sem, *]; done) | (simp (disch := (first | omega | (simp; done) | (simp; omega))) [results, Try.results34, go_sem, *]; done) | (simp only [results, Try.results34]; go_simp; done)) rfl ⟨fun _ => rfl, fun h => (by rw [HY.out] at h; cases h), ?_⟩
    have hB6 := H6.out
    have hBq := hB6.size
    (repeat' (first | (with_reducible exact Below.refl _ _) | (with_reducible assumption) | (with_reducible refine Below.alloc ?_ ?_ _) | (with_reducible refine Below.drew ?_) | (with_reducible refine below_drewN ?_ _) | (with_reducible refine Below.setCell ?_ ?_ _) | (with_reducible refine chain ?_ (by assumption) ?_) | omega | (simp; done) | (simp; omega)))

end Go.Proofs.Ytncgccpkbneagaa
namespace Go.Proofs.Ytncgccpkbneagaa
open Go.RowKit RM
set_option linter.unusedVariables false
set_option linter.unusedSimpArgs false
attribute [local irreducible] World.setCell

/-- the sum of the first j numbers of the diagonal, and whether it failed -/
def trF (c : Nat) (xs : List D5) : Nat → D5 × Bool
  | 0 => (z5, false)
  | j + 1 => addS (trF c xs j).2 (trF c xs j).1 (xs.getD (j * c + j) z5)
theorem trF_up {c : Nat} {xs : List D5} {j k : Nat} (h : (trF c xs j).2 = true) (hk : j ≤ k) : (trF c xs k).2 = true := by
  obtain ⟨q, rfl⟩ := Nat.exists_eq_add_of_le hk
  clear hk
  induction q with
  | zero => exact h
  | succ q ih => show (addS (trF c xs (j + q)).2 _ _).2 = true; rw [ih]; exact addS_t
theorem trF_next {c : Nat} {xs : List D5} {j : Nat} {s x : D5} {z : Bool} (h : trF c xs j = (s, z)) (hx : xs.getD (j * c + j) z5 = x) : trF c xs (j + 1) = addS z s x := by
  show addS (trF c xs j).2 (trF c xs j).1 _ = _
  rw [h, hx]
def TR (w w' : World) (ee : Ending) (p : D5 × Bool) : Prop :=
  (p.2 = true → ee = .returned (dt 0 0 0 0 0 false)) ∧ (p.2 = false → ee = .returned (dt p.1.a p.1.b p.1.c p.1.d p.1.e true)) ∧ Below w.heap.size w w'
theorem TR.t {w w' : World} {p : D5 × Bool} {s : D5} (h : p = (s, false)) (hb : Below w.heap.size w w') : TR w w' (.returned (dt s.a s.b s.c s.d s.e true)) p := by
  subst h; exact ⟨fun h => (by cases h), fun _ => rfl, hb⟩
theorem TR.f {w w' : World} {p : D5 × Bool} (h : p.2 = true) (hb : Below w.heap.size w w') : TR w w' (.returned (dt 0 0 0 0 0 false)) p :=
  ⟨fun _ => rfl, fun k => (by rw [h] at k; cases k), hb⟩
theorem Bx.set5 {W : World} {b : Nat} {t : TypeId} {x : D5} (y : D5) (h : Bx W b t #[.int .i64 x.a, .int .i64 x.b, .int .i64 x.c, .int .i64 x.d, .int .i64 x.e]) : Bx (Go.Proofs.Ytncgccpkbneagaa.set5 W b 0 y) b t #[.int .i64 y.a, .int .i64 y.b, .int .i64 y.c, .int .i64 y.d, .int .i64 y.e] :=
  ((((h.set (i := 0) (u := .int .i64 y.a) rfl).set (i := 0 + 1) (u := .int .i64 y.b) rfl).set (i := 0 + 2) (u := .int .i64 y.c) rfl).set (i := 0 + 3) (u := .int .i64 y.d) rfl).set (i := 0 + 4) (u := .int .i64 y.e) rfl
theorem Bx.far5 {W : World} {b g o : Nat} {t : TypeId} {cs : Array Value} (y : D5) (h : Bx W b t cs) (hp : b ≠ g) : Bx (Go.Proofs.Ytncgccpkbneagaa.set5 W g o y) b t cs :=
  (set5_far hp).trans h

end Go.Proofs.Ytncgccpkbneagaa
