/- Od, Oe -/
import Derived.Test.YtofclfgaekjonaaZp29
import Derived.Test.YtofclfgaekjonaaZp30
import Derived.Test.YtofclfgaekjonaaZp8
import Derived.Test.YtofclfgaekjonaaZp24
import Derived.Test.YtofclfgaekjonaaZp22
namespace Go.Proofs.Ytofclfgaekjonaa
open Go.RowKit RM
set_option linter.unusedVariables false
set_option linter.unusedSimpArgs false
attribute [local irreducible] World.setCell

open GM
theorem Rd.nz {W : World} {A : Option Addr} {xs : List D5} (h : Rd W A xs) (hn : 0 < xs.length) : ∃ g o, A = some ⟨g, o, none⟩ ∧ g < W.heap.size := by
  obtain ⟨x, hx⟩ : ∃ x, xs[0]? = some x := ⟨_, List.getElem?_eq_getElem hn⟩
  obtain ⟨g, o, e, hc⟩ := h 0 x hx
  exact ⟨g, o, e, hc.lt⟩
theorem Rd.bad {W W' : World} {g o gc : Nat} {u : Value} {xs : List D5} (h : Rd W (some ⟨g, o, none⟩) xs) (hb : Below W.heap.size (W.setCell ⟨gc, 0, none⟩ u) W') (hne : g ≠ gc) : Rd W' (some ⟨g, o, none⟩) xs := by
  intro k x hx
  obtain ⟨g1, o1, e1, hc⟩ := h k x hx
  simp only [Option.some.injEq, Addr.mk.injEq, and_true] at e1
  obtain ⟨rfl, rfl⟩ := e1
  exact ⟨g, o, rfl, hc.at_ ((hb.block g hc.lt).trans (Below.heap_setCell _ _ _ _ (by show g ≠ gc; exact hne)))⟩
/-- what the model's applied gates answer -/
def RN (w w' : World) (ee : Ending) (D C N h0 gc : Nat) (r : Option (List D5)) : Prop :=
  ∃ (z : Bool) (zs : List D5) (h o cq : Nat), ee = .returned (mv (D : Int) (C : Int) (some ⟨h, o, none⟩) N cq) ∧ zs.length = N ∧ (z = false → r = some zs) ∧ (z = true → r = none) ∧ Rd w' (some ⟨h, o, none⟩) zs ∧ (h = h0 ∨ w.heap.size ≤ h) ∧ Below w.heap.size (w.setCell ⟨gc, 0, none⟩ (.bool z)) w'

set_option maxRecDepth 100000 in
set_option maxHeartbeats 8000000 in
theorem lrun {n D C N m c1 h0 o0 cp0 gc : Nat} {A : Option Addr} {gs : List C4.GateV} {xs : List D5} {w : World} (hA : C4.Rd C4.gateE w A gs) (hAg : ∀ a, A = some a → a.block ≠ gc) (hm : gs.length = m) (hm4 : m ≤ 400) (hG : ∀ (i : Nat) (g : C4.GateV), gs[i]? = some g → C4.vgB (n : Int) g = true) (h1 : 1 ≤ n) (h5 : n ≤ 5) (hD : D = 2 ^ n) (hC : dimB (C : Int) = true) (hN : N = D * C) (hX : Rd w (some ⟨h0, o0, none⟩) xs) (hh : h0 ≠ gc) (hhw : h0 < w.heap.size) (hx : xs.length = N) (hok : okM (D : Int) (C : Int) N xs = true) (hc0 : Bx w gc 116 #[.bool false]) :
    Calls Try.prog 114 #[.pointer (some ⟨gc, 0, none⟩), C4.circuitV (n : Int) A m c1, mv (D : Int) (C : Int) (some ⟨h0, o0, none⟩) N cp0] w fun ee w' => RN w w' ee D C N h0 gc (apl n D C gs xs) := by
  obtain ⟨d2, d32, dw, dw2, dd⟩ := pow_dim h1 h5 hD
  have c32 : 1 ≤ C ∧ C ≤ 32 := by have := dimB_cases hC; omega
  have n10 : N ≤ 1024 := by rw [hN]; exact Nat.mul_le_mul d32 c32.2
  have nz : 0 < N := by rw [hN]; exact Nat.mul_pos (Nat.lt_of_lt_of_le Nat.two_pos d2) c32.1
  have hgc := hc0.lt
  have HA := hid hA
  have HAG := hid hAg
  have HM := hid hm
  have HG := hid hG
  have HD := hid hD
  have HC := hid hC
  have EN := hid hN
  have HX := hid hX
  have HX2 := hid (And.intro hok hx)
  have DD := hid dd
  have XC := hid hc0
  have hm5 : (m : Int) ≤ 400 := by omega
  clear hA hAg hm hG hD hC hN hX hx hok dd hc0
  go_enter Try.func114, Try.ntmps114
  go_wp2_with (fail)
  go_loopg [12] m (fun q s1 wr => ∃ (j h o cq : Nat) (z : Bool) (ys : List D5), j + q = m ∧ s1 = .int .i64 (j : Int) ∧ Hid (Bx wr (w.heap.size) 42 #[.int .i64 (n : Int), .slice A m c1]) ∧ Hid (Bx wr (w.heap.size + 1) 30 #[.int .i64 (D : Int), .int .i64 (C : Int), .slice (some ⟨h, o, none⟩) N cq]) ∧ Hid (Bx wr (w.heap.size + 1 + 1) 30 #[.int .i64 0, .int .i64 0, .slice none 0 0]) ∧ Hid (Bx wr (gc) 116 #[.bool z]) ∧ Hid (Rd wr (some ⟨h, o, none⟩) ys) ∧ Hid (ys.length = N) ∧ Hid (z = false → apl n D C (gs.take j) xs = some ys ∧ okM (D : Int) (C : Int) N ys = true) ∧ Hid (z = true → apl n D C gs xs = none) ∧ Hid (h = h0 ∨ w.heap.size ≤ h) ∧ h ≠ gc ∧ (h < w.heap.size ∨ w.heap.size + 1 + 1 < h) ∧ w.heap.size + 1 + 1 + 1 ≤ wr.heap.size ∧ Hid (Below w.heap.size (w.setCell ⟨gc, 0, none⟩ (.bool z)) wr))
  case atStart =>
    have RC := XC.out
    have hb0 : Below w.heap.size (w.setCell ⟨gc, 0, none⟩ (.bool false)) w := bad_0 (RC.c 0 rfl)
    refine ⟨0, h0, o0, cp0, false, xs, by omega, rfl, ?_, ?_, ?_, ?_, ?_, HX2.out.2, (fun _ => ⟨rfl, HX2.out.1⟩), (fun k => by cases k), Or.inl rfl, hh, Or.inl hhw, by simp, ?_⟩
    · show Bx _ _ _ _; exact ((Bx.new rfl).alloc _).alloc _
    · show Bx _ _ _ _; exact (Bx.new (by simp)).alloc _
    · show Bx _ _ _ _; exact Bx.new (by simp)
    · show Bx _ _ _ _; exact ((RC.alloc _).alloc _).alloc _
    · show Rd _ _ _
      exact HX.out.mono (by (repeat' (first | (with_reducible exact Below.refl _ _) | (with_reducible assumption) | (with_reducible refine Below.alloc ?_ ?_ _) | (with_reducible refine Below.drew ?_) | (with_reducible refine below_drewN ?_ _) | (with_reducible refine Below.setCell ?_ ?_ _) | (with_reducible refine chain ?_ (by assumption) ?_) | omega | (simp; done) | (simp; omega))))
    · show Below _ _ _
      exact ((hb0.alloc (Nat.le_refl _) _).alloc (by simp) _).alloc (by simp; omega) _
  case round =>
    obtain ⟨j, h, o, cq, z, ys, hj, rfl, Xc, Xm, Xz, Xf, HR, HL, HZF, HZT, HH, hhc, hhb, hsz, HB⟩ := hrel
    have cc0 := Xc.out.c 0 rfl
    have cc1 := Xc.out.c 1 rfl
    have lc := Xc.out.lt
    have cm0 := Xm.out.c 0 rfl
    have cm1 := Xm.out.c 1 rfl
    have cm2 := Xm.out.c 2 rfl
    have lm := Xm.out.lt
    have fm := Xm.out.f
    have cz0 := Xz.out.c 0 rfl
    have cz1 := Xz.out.c 1 rfl
    have cz2 := Xz.out.c 2 rfl
    have lz := Xz.out.lt
    have fz := Xz.out.f
    have cf0 := Xf.out.c 0 rfl
    have lf := Xf.out.lt
    have ff := Xf.out.f
    have hBq := HB.out.size
    rw [World.size_setCell] at hBq
    cases gk with
    | zero =>
      obtain rfl : j = m := by omega
      go_wp2_with (fail)
      refine bodyPost_ret (v := mv (D : Int) (C : Int) (some ⟨h, o, none⟩) N cq) (by first | (simp [results, Try.results114, go_sem, *]; done) | (simp (disch := (first | omega | (simp; done) | (simp; omega))) [results, Try.results114, go_sem, *]; done) | (simp only [results, Try.results114]; go_simp; done)) rfl ⟨z, ys, h, o, cq, rfl, HL.out, fun k => ?_, fun k => ?_, ?_, HH.out, ?_⟩
      · obtain ⟨e, -⟩ := HZF.out k
        rw [List.take_of_length_le (by rw [HM.out]; exact Nat.le_refl _)] at e
        exact e
      · exact HZT.out k
      · (repeat' (first | exact HR.out | refine Rd.far ?_ (fun a ha => by obtain rfl := Option.some.inj ha; show h ≠ w.heap.size + 1 + 1; omega) _))
      · have hB := HB.out
        (repeat' (first | (with_reducible exact Below.refl _ _) | (with_reducible assumption) | (with_reducible refine Below.alloc ?_ ?_ _) | (with_reducible refine Below.drew ?_) | (with_reducible refine below_drewN ?_ _) | (with_reducible refine Below.setCell ?_ ?_ _) | (with_reducible refine chain ?_ (by assumption) ?_) | omega | (simp; done) | (simp; omega)))
    | succ m9 =>
      have hlt : j < m := by omega
      have j1 : (j : Int) < (m : Int) := by omega
      obtain ⟨g, hg⟩ : ∃ g, gs[j]? = some g := ⟨_, List.getElem?_eq_getElem (by rw [HM.out]; exact hlt)⟩
      have hv := HG.out j g hg
      obtain ⟨ga, go, rfl, hga, q0, q1, q2⟩ := C4.Rd.atGate HA.out hg
      have hgg : ga ≠ gc := HAG.out _ rfl
      have z0 := kbad HB.out hgg.symm q0
      have z1 := kbad HB.out hgg.symm q1
      have z2 := kbad HB.out hgg.symm q2
      have HGJ := hid hg
      have HV := hid hv
      have lga : ga < wr.heap.size := by omega
      clear hg hv q0 q1 q2
      cases z
      · have HZ0 : Hid (apl n D C (gs.take j) xs = some ys ∧ okM (D : Int) (C : Int) N ys = true) := hid (HZF.out rfl)
        clear HZF HZT
        go_upto_region 5 with (fail)
        obtain ⟨W, hW⟩ : ∃ W : World, W = wr.alloc (.cells #[.int .i64 g.f0, .int .i64 g.f1, .int .i64 g.f2] 150) := ⟨_, rfl⟩
        have hbW : Below wr.heap.size wr W := by rw [hW]; exact (Below.refl _ _).alloc (Nat.le_refl _) _
        have Xg : Bx W wr.heap.size 150 #[.int .i64 g.f0, .int .i64 g.f1, .int .i64 g.f2] := by rw [hW]; exact Bx.new rfl
        have hzW : wr.heap.size < W.heap.size := by rw [hW]; simp
        rw [← hW]
        clear hW z0 z1 z2
        have Yc := hid (Xc.out.mono hbW)
        have Ym := hid (Xm.out.mono hbW)
        have Yz := hid (Xz.out.mono hbW)
        have Yf := hid (Xf.out.mono hbW)
        have YR := hid (HR.out.mono hbW)
        have HBW := hid (chain HB.out hbW (by omega))
        clear Xc lc cc0 cc1 Xm lm cm0 cm1 cm2 fm Xz lz cz0 cz1 cz2 fz Xf lf cf0 ff HR HB
        obtain ⟨Xc, Xm, Xz, Xf, HR⟩ : _ ∧ _ ∧ _ ∧ _ ∧ _ := ⟨Yc, Ym, Yz, Yf, YR⟩
        clear Yc Ym Yz Yf YR
        have cc0 := Xc.out.c 0 rfl
        have cc1 := Xc.out.c 1 rfl
        have lc := Xc.out.lt
        have cm0 := Xm.out.c 0 rfl
        have cm1 := Xm.out.c 1 rfl
        have cm2 := Xm.out.c 2 rfl
        have lm := Xm.out.lt
        have fm := Xm.out.f
        have cz0 := Xz.out.c 0 rfl
        have cz1 := Xz.out.c 1 rfl
        have cz2 := Xz.out.c 2 rfl
        have lz := Xz.out.lt
        have fz := Xz.out.f
        have lf := Xf.out.lt
        have cf0 := Xf.out.c 0 rfl
        have g0 := Xg.c 0 rfl
        have g1 := Xg.c 1 rfl
        have g2 := Xg.c 2 rfl
        have ycc0 : W.drew.cell? ⟨w.heap.size, 0, none⟩ = some (.int .i64 (n : Int)) := cc0
        have ycc1 : W.drew.cell? ⟨w.heap.size, 1, none⟩ = some (.slice (some ⟨ga, go, none⟩) m c1) := cc1
        have yg0 : W.drew.cell? ⟨wr.heap.size, 0, none⟩ = some (.int .i64 g.f0) := g0
        have yg1 : W.drew.cell? ⟨wr.heap.size, 1, none⟩ = some (.int .i64 g.f1) := g1
        have yg2 : W.drew.cell? ⟨wr.heap.size, 2, none⟩ = some (.int .i64 g.f2) := g2
        have ycm0 : W.drew.cell? ⟨w.heap.size + 1, 0, none⟩ = some (.int .i64 (D : Int)) := cm0
        have ycm1 : W.drew.cell? ⟨w.heap.size + 1, 1, none⟩ = some (.int .i64 (C : Int)) := cm1
        have ycm2 : W.drew.cell? ⟨w.heap.size + 1, 2, none⟩ = some (.slice (some ⟨h, o, none⟩) N cq) := cm2
        refine wp_region_x (fun w' => w'.cell? ⟨w.heap.size, 0, none⟩ = some (.int .i64 (n : Int)) ∧ w'.cell? ⟨w.heap.size, 1, none⟩ = some (.slice (some ⟨ga, go, none⟩) m c1) ∧ w'.cell? ⟨wr.heap.size, 0, none⟩ = some (.int .i64 g.f0) ∧ w'.cell? ⟨wr.heap.size, 1, none⟩ = some (.int .i64 g.f1) ∧ w'.cell? ⟨wr.heap.size, 2, none⟩ = some (.int .i64 g.f2) ∧ w'.cell? ⟨w.heap.size + 1, 0, none⟩ = some (.int .i64 (D : Int)) ∧ w'.cell? ⟨w.heap.size + 1, 1, none⟩ = some (.int .i64 (C : Int)) ∧ w'.cell? ⟨w.heap.size + 1, 2, none⟩ = some (.slice (some ⟨h, o, none⟩) N cq)) 7 (by kernel_rfl) ⟨ycc0, ycc1, yg0, yg1, yg2, ycm0, ycm1, ycm2⟩ (fun hS0 => ?_)
        refine wpAnyX_take (i := 0) (oi := _) (v := ?_) rfl (by kernel_rfl) (by kernel_rfl) (by kernel_rfl) (by kernel_rfl) (fun _ _ _ h => h) (Or.inl ⟨by rfl, ?_⟩) hS0 ?_
        rotate_left 1
        · (intro w hSw; (try dsimp only at hSw); go_simp; (try with_reducible rfl))
        try simp only [Act.put, List.setIfInBounds_toArray, List.set_cons_zero, List.set_cons_succ]
        refine wpAnyX_take (i := 1) (oi := _) (v := ?_) rfl (by kernel_rfl) (by kernel_rfl) (by kernel_rfl) (by kernel_rfl) (fun _ _ _ h => h) (Or.inl ⟨by rfl, ?_⟩) hS0 ?_
        rotate_left 1
        · (intro w hSw; (try dsimp only at hSw); go_simp; (try with_reducible rfl))
        try simp only [Act.put, List.setIfInBounds_toArray, List.set_cons_zero, List.set_cons_succ]
        refine wpAnyX_take (i := 2) (oi := _) (v := ?_) rfl (by kernel_rfl) (by kernel_rfl) (by kernel_rfl) (by kernel_rfl) (fun _ _ _ h => h) (Or.inl ⟨by rfl, ?_⟩) hS0 ?_
        rotate_left 1
        · (intro w hSw; (try dsimp only at hSw); go_simp; (try with_reducible rfl))
        try simp only [Act.put, List.setIfInBounds_toArray, List.set_cons_zero, List.set_cons_succ]
        refine wpAnyX_take (i := 3) (oi := _) (v := ?_) rfl (by kernel_rfl) (by kernel_rfl) (by kernel_rfl) (by kernel_rfl) (fun _ _ _ h => h) (Or.inl ⟨by rfl, ?_⟩) hS0 ?_
        rotate_left 1
        · (intro w hSw; (try dsimp only at hSw); go_simp; (try with_reducible rfl))
        try simp only [Act.put, List.setIfInBounds_toArray, List.set_cons_zero, List.set_cons_succ]
        refine wpAnyX_take (i := 5) (oi := _) (v := ?_) rfl (by kernel_rfl) (by kernel_rfl) (by kernel_rfl) (by kernel_rfl) (fun _ _ _ h => h) (Or.inl ⟨by rfl, ?_⟩) hS0 ?_
        rotate_left 1
        · (intro w hSw; (try dsimp only at hSw); go_simp; (try with_reducible rfl))
        try simp only [Act.put, List.setIfInBounds_toArray, List.set_cons_zero, List.set_cons_succ]
        refine wpAnyX_one (i := 4) (o := _) rfl (by kernel_rfl) (fun K hK => ?_)
        go_simp
        refine (lg_g (D := D) (NN := D * D) HV.out HD.out rfl).mono ?_
        rintro ee w8 ⟨gb, cq8, rfl, hR8, hg8, hb80⟩
        have hb8 := undrewK hb80
        have hz8 := hb8.size
        (try simp only [World.size_drew] at hg8)
        obtain ⟨gb', ob', eb, lgb⟩ := hR8.nz (by rw [gmt, tab_len]; exact Nat.mul_pos (by omega) (by omega))
        obtain ⟨rfl, rfl⟩ : gb = gb' ∧ 0 = ob' := by simpa using eb
        clear eb
        refine hK.out _ _ (fun _ => ?_) (fun hS1 => ?_)
        · exact ⟨kc hb80 (hS0.1), kc hb80 (hS0.2.1), kc hb80 (hS0.2.2.1), kc hb80 (hS0.2.2.2.1), kc hb80 (hS0.2.2.2.2.1), kc hb80 (hS0.2.2.2.2.2.1), kc hb80 (hS0.2.2.2.2.2.2.1), kc hb80 (hS0.2.2.2.2.2.2.2)⟩
        clear hK K
        have hS1 := hS1 (by decide)
        try simp only [Act.put, List.setIfInBounds_toArray, List.set_cons_zero, List.set_cons_succ]
        refine wpAnyX_one (i := 6) (o := _) rfl (by kernel_rfl) (fun K hK => ?_)
        go_simp
        refine (mumo (ra := D) (ca := D) (cb := C) (g0 := gb) (h0 := h) (o0 := o) (n := D * D) (m := N) (N := N) (gc := gc) (xs := gmt n D g) (ys := ys) hR8 (HR.out.mono hb8) (by rw [gmt, tab_len]) HL.out (gmt_okM DD.out (vg_nat HV.out).1) HZ0.out.2 EN.out (Xf.out.mono hb8) (by omega) hhc).mono ?_
        rintro ee w9 ⟨z', zs, Bo, cq', rfl, hS, hRd, hBa, hb9⟩
        have hz9 := bad_size hb9
        obtain ⟨h', o', rfl, lh'⟩ := hRd.nz (by rw [hS.1]; exact nz)
        have hh' : w8.heap.size ≤ h' := hBa _ rfl
        refine hK.out _ _ (fun _ => ?_) (fun hS2 => ?_)
        · exact ⟨kbad hb9 (by omega) (hS1.1), kbad hb9 (by omega) (hS1.2.1), kbad hb9 (by omega) (hS1.2.2.1), kbad hb9 (by omega) (hS1.2.2.2.1), kbad hb9 (by omega) (hS1.2.2.2.2.1), kbad hb9 (by omega) (hS1.2.2.2.2.2.1), kbad hb9 (by omega) (hS1.2.2.2.2.2.2.1), kbad hb9 (by omega) (hS1.2.2.2.2.2.2.2)⟩
        clear hK K
        have hS2 := hS2 (by decide)
        try simp only [Act.put, List.setIfInBounds_toArray, List.set_cons_zero, List.set_cons_succ]
        refine wpAnyX_one (i := 7) (o := _) rfl (by kernel_rfl) (fun K hK => ?_)
        have Xm9 := (Xm.out.mono hb8).badly hb9 (by omega)
        have e0 := Xm9.c 0 rfl
        have e1 := Xm9.c 1 rfl
        have e2 := Xm9.c 2 rfl
        have ef := Xm9.f
        have el := Xm9.lt
        go_simp
        refine hK.out _ _ (fun h => absurd rfl h) (fun _ => ?_)
        clear hK K
        try simp only [Act.put, List.setIfInBounds_toArray, List.set_cons_zero, List.set_cons_succ]
        refine wpAnyX_done (by kernel_rfl) ?_ _
        have hst := apl_take HGJ.out HZ0.out.1
        have HST := hid hst
        have HS := hid hS
        have HRd := hid hRd
        have hw8 : Below w.heap.size (w.setCell ⟨gc, 0, none⟩ (.bool false)) w8 := chain HBW.out hb8 (by have := HBW.out.size; rw [World.size_setCell] at this; exact this)
        have hw9 := bad_step hw8 hgc hb9 (by omega)
        have HW9 := hid hw9
        have R1 := (Xc.out.mono hb8).badly hb9 (by omega)
        have R3 := (Xz.out.mono hb8).badly hb9 (by omega)
        have R4 := (Xf.out.mono hb8).bad hb9
        clear hst hS hRd hBa hw8 hw9
        go_wp2_with (fail)
        go_roundg m9
        case measure => omega
        case rel =>
          refine ⟨j + 1, h', o', cq', z', zs, by omega, by go_num, ?_, ?_, ?_, ?_, ?_, HS.out.1, ?_, ?_, Or.inr (by omega), by omega, Or.inr (by omega), by (try simp only [World.size_setCell]); omega, ?_⟩
          · show Bx _ _ _ _
            (repeat' (first | (with_reducible exact R1) | (with_reducible refine Bx.far ?_ (by omega))))
          · show Bx _ _ _ _
            exact Bx.set (i := 2) (u := .slice (some ⟨h', o', none⟩) N cq') (Bx.set (i := 1) (u := .int .i64 (C : Int)) (Bx.set (i := 0) (u := .int .i64 (D : Int)) Xm9 rfl) rfl) rfl
          · show Bx _ _ _ _
            (repeat' (first | (with_reducible exact R3) | (with_reducible refine Bx.far ?_ (by omega))))
          · show Bx _ _ _ _
            (repeat' (first | (with_reducible exact R4) | (with_reducible refine Bx.far ?_ (by omega))))
          · show Rd _ _ _
            (repeat' (first | exact HRd.out | refine Rd.far ?_ (fun a ha => by obtain rfl := Option.some.inj ha; show h' ≠ w.heap.size + 1; omega) _))
          · show _ → _
            intro k
            have e : stB n D C g ys = false := by unfold stB; rw [← EN.out, ← HS.out.2.1]; exact k
            rw [HST.out, e, HS.out.2.2 k, EN.out]
            exact ⟨rfl, stF_okM DD.out HC.out (vg_nat HV.out).1 (okM_iff.1 HZ0.out.2).2.2.2⟩
          · show _ → _
            intro k
            have e : stB n D C g ys = true := by unfold stB; rw [← EN.out, ← HS.out.2.1]; exact k
            refine apl_none (j := j + 1) ?_
            rw [HST.out, e]; rfl
          · show Below _ _ _
            have hB9 := HW9.out
            (repeat' (first | (with_reducible assumption) | refine Below.setCell ?_ (by show w.heap.size ≤ w.heap.size + 1; omega) _))
      · have HZ1 : Hid (apl n D C gs xs = none) := hid (HZT.out rfl)
        clear HZF HZT
        go_wp2_with (fail)
        go_roundg m9
        case measure => omega
        case rel =>
          have R1 := Xc.out
          have R2 := Xm.out
          have R3 := Xz.out
          have R4 := Xf.out
          refine ⟨j + 1, h, o, cq, true, ys, by omega, by go_num, ?_, ?_, ?_, ?_, ?_, HL.out, (fun k => by cases k), (fun _ => HZ1.out), HH.out, hhc, hhb, by simp; omega, ?_⟩
          · show Bx _ _ _ _; exact R1.alloc _
          · show Bx _ _ _ _; exact R2.alloc _
          · show Bx _ _ _ _; exact R3.alloc _
          · show Bx _ _ _ _; exact R4.alloc _
          · show Rd _ _ _
            exact HR.out.mono ((Below.refl _ _).alloc (Nat.le_refl _) _)
          · show Below _ _ _
            exact HB.out.alloc (by omega) _

end Go.Proofs.Ytofclfgaekjonaa
namespace Go.Proofs.Ytofclfgaekjonaa
open Go.RowKit RM
set_option linter.unusedVariables false
set_option linter.unusedSimpArgs false
attribute [local irreducible] World.setCell

open GM
theorem okC_nat {a0 : Int} {m : Nat} {gs : List C4.GateV} (h : C4.okC a0 m gs = true) : ∃ n : Nat, a0 = (n : Int) ∧ 1 ≤ n ∧ n ≤ 5 ∧ m ≤ 400 ∧ ∀ (i : Nat) (g : C4.GateV), gs[i]? = some g → C4.vgB (n : Int) g = true := by
  obtain ⟨h1, h2, h3, h4⟩ := C4.okC_iff.1 h
  obtain ⟨n, rfl⟩ : ∃ n : Nat, a0 = (n : Int) := ⟨a0.toNat, by omega⟩
  refine ⟨n, rfl, by omega, by omega, h3, fun i g hg => ?_⟩
  unfold C4.vgB
  rw [C4.inB_t h1 h2, Bool.true_and]
  exact h4 i g hg
/-- the operator of a circuit's gates -/
def opL (n : Nat) (gs : List C4.GateV) : Option (List D5) := apl n (2 ^ n) (2 ^ n) gs (tab (2 ^ n * 2 ^ n) (unitP (2 ^ n) (2 ^ n)))

set_option maxRecDepth 100000 in
set_option maxHeartbeats 4000000 in
theorem op_s_f {a0 : Int} {A : Option Addr} {m c1 : Nat} {gs : List C4.GateV} {w : World} (hA : C4.Rd C4.gateE w A gs) (hm : gs.length = m) (hmx : m ≤ maxLen) (hok : C4.okC a0 m gs = false) :
    Calls Try.prog 64 #[C4.circuitV a0 A m c1] w fun ee w' => ee = .returned (mt 0 0 none 0 0 false) ∧ Below w.heap.size w w' := by
  have HA := hid hA
  have HM := hid hm
  have HO := hid hok
  have HX := hid hmx
  clear hA hm hok hmx
  go_enter Try.func64, Try.ntmps64
  go_wp2_with (fail)
  refine (C4.vcs HO.out ?_ HM.out HX.out).mono ?_
  · exact HA.out.mono (by (repeat' (first | (with_reducible exact Below.refl _ _) | (with_reducible assumption) | (with_reducible refine Below.alloc ?_ ?_ _) | (with_reducible refine Below.drew ?_) | (with_reducible refine below_drewN ?_ _) | (with_reducible refine Below.setCell ?_ ?_ _) | (with_reducible refine chain ?_ (by assumption) ?_) | omega | (simp; done) | (simp; omega))))
  rintro ee w1 ⟨rfl, hb1⟩
  obtain ⟨hc1, hf1, _⟩ := bcell hb1; have hz1 := hb1.size; (try simp at hz1); (try have hx10 : w.heap.size < w1.heap.size := (by omega)); (try have hx11 : w.heap.size + 1 < w1.heap.size := (by omega)); (try have hx12 : w.heap.size + 1 + 1 < w1.heap.size := (by omega))
  go_wp2_with (fail)
  refine bodyPost_ret (v := mt 0 0 none 0 0 false) (by first | (simp [results, Try.results64, go_sem, *]; done) | (simp (disch := (first | omega | (simp; done) | (simp; omega))) [results, Try.results64, go_sem, *]; done) | (simp only [results, Try.results64]; go_simp; done)) rfl ⟨rfl, ?_⟩
  (repeat' (first | (with_reducible exact Below.refl _ _) | (with_reducible assumption) | (with_reducible refine Below.alloc ?_ ?_ _) | (with_reducible refine Below.drew ?_) | (with_reducible refine below_drewN ?_ _) | (with_reducible refine Below.setCell ?_ ?_ _) | (with_reducible refine chain ?_ (by assumption) ?_) | omega | (simp; done) | (simp; omega)))

set_option maxRecDepth 100000 in
set_option maxHeartbeats 4000000 in
theorem op_i_f {a0 : Int} {A : Option Addr} {m c1 : Nat} {gs : List C4.GateV} {w : World} (hA : C4.Rd C4.gateE w A gs) (hm : gs.length = m) (hmx : m ≤ maxLen) (hok : C4.okC a0 m gs = false) :
    Calls Try.prog 67 #[C4.circuitV a0 A m c1] w fun ee w' => ee = .returned (mt 0 0 none 0 0 false) ∧ Below w.heap.size w w' := by
  have HA := hid hA
  have HM := hid hm
  have HO := hid hok
  have HX := hid hmx
  clear hA hm hok hmx
  go_enter Try.func67, Try.ntmps67
  go_wp2_with (fail)
  refine (C4.vci HO.out ?_ HM.out HX.out).mono ?_
  · exact HA.out.mono (by (repeat' (first | (with_reducible exact Below.refl _ _) | (with_reducible assumption) | (with_reducible refine Below.alloc ?_ ?_ _) | (with_reducible refine Below.drew ?_) | (with_reducible refine below_drewN ?_ _) | (with_reducible refine Below.setCell ?_ ?_ _) | (with_reducible refine chain ?_ (by assumption) ?_) | omega | (simp; done) | (simp; omega))))
  rintro ee w1 ⟨rfl, hb1⟩
  obtain ⟨hc1, hf1, _⟩ := bcell hb1; have hz1 := hb1.size; (try simp at hz1); (try have hx10 : w.heap.size < w1.heap.size := (by omega)); (try have hx11 : w.heap.size + 1 < w1.heap.size := (by omega)); (try have hx12 : w.heap.size + 1 + 1 < w1.heap.size := (by omega))
  go_wp2_with (fail)
  refine bodyPost_ret (v := mt 0 0 none 0 0 false) (by first | (simp [results, Try.results67, go_sem, *]; done) | (simp (disch := (first | omega | (simp; done) | (simp; omega))) [results, Try.results67, go_sem, *]; done) | (simp only [results, Try.results67]; go_simp; done)) rfl ⟨rfl, ?_⟩
  (repeat' (first | (with_reducible exact Below.refl _ _) | (with_reducible assumption) | (with_reducible refine Below.alloc ?_ ?_ _) | (with_reducible refine Below.drew ?_) | (with_reducible refine below_drewN ?_ _) | (with_reducible refine Below.setCell ?_ ?_ _) | (with_reducible refine chain ?_ (by assumption) ?_) | omega | (simp; done) | (simp; omega)))

set_option maxRecDepth 100000 in
set_option maxHeartbeats 8000000 in
theorem op_i_t {n m c1 : Nat} {A : Option Addr} {gs : List C4.GateV} {w : World} (hA : C4.Rd C4.gateE w A gs) (hm : gs.length = m) (hok : C4.okC (n : Int) m gs = true) :
    Calls Try.prog 67 #[C4.circuitV (n : Int) A m c1] w fun ee w' => (opL n gs = none → ee = .returned (mt 0 0 none 0 0 false)) ∧ (∀ zs, opL n gs = some zs → ∃ h : Nat, ee = .returned (mt ((2 ^ n : Nat) : Int) ((2 ^ n : Nat) : Int) (some ⟨h, 0, none⟩) (2 ^ n * 2 ^ n) (2 ^ n * 2 ^ n) true) ∧ Bk w' h 99 zs ∧ w.heap.size ≤ h) ∧ Below w.heap.size w w' := by
  obtain ⟨n', hn', h1, h5, hm4, hG⟩ := okC_nat hok
  obtain rfl : n = n' := by omega
  obtain ⟨D, hD⟩ : ∃ D, D = 2 ^ n := ⟨_, rfl⟩
  obtain ⟨d2, d32, dw, dw2, dd⟩ := pow_dim h1 h5 hD
  obtain ⟨NN, hNN⟩ : ∃ NN, NN = D * D := ⟨_, rfl⟩
  have nn5 : NN ≤ 1024 := by rw [hNN]; exact Nat.mul_le_mul d32 d32
  have hr : opL n gs = apl n D D gs (tab NN (unitP D D)) := by unfold opL; rw [hNN, hD]
  rw [hr, ← hD, ← hNN]
  have hmx : m ≤ maxLen := by unfold maxLen; omega
  have n5 : (n : Int) ≤ 5 := by omega
  have uok : okM (D : Int) (D : Int) NN (tab NN (unitP D D)) = true := okM_iff.2 ⟨dd, dd, by rw [hNN]; simp, unit_ok D⟩
  have HA := hid hA
  have HM := hid hm
  have HO := hid hok
  have HX := hid hmx
  have HD := hid hD
  have EQ := hid hNN
  have DD := hid dd
  have HG := hid hG
  have UOK := hid uok
  clear hA hm hok hmx hD hNN dd hG uok hr hn'
  go_enter Try.func67, Try.ntmps67
  go_wp2_with (fail)
  refine (C4.vci HO.out ?_ HM.out HX.out).mono ?_
  · exact HA.out.mono (by (repeat' (first | (with_reducible exact Below.refl _ _) | (with_reducible assumption) | (with_reducible refine Below.alloc ?_ ?_ _) | (with_reducible refine Below.drew ?_) | (with_reducible refine below_drewN ?_ _) | (with_reducible refine Below.setCell ?_ ?_ _) | (with_reducible refine chain ?_ (by assumption) ?_) | omega | (simp; done) | (simp; omega))))
  rintro ee w1 ⟨rfl, hb1⟩
  have Xc1 : Bx w1 (w.heap.size) 42 #[.int .i64 (n : Int), .slice A m c1] := by (repeat' (first | (with_reducible assumption) | (refine Bx.new (by first | (with_reducible rfl) | (simp; done))) | (with_reducible refine Bx.alloc ?_ _) | (with_reducible refine Bx.drew ?_) | (with_reducible refine Bx.drewN ?_ _) | (with_reducible refine Bx.mono ?_ (by assumption)) | (with_reducible refine Bx.badly ?_ (by assumption) (by omega)) | (with_reducible refine Bx.far ?_ (by (try simp only [World.size_alloc, World.size_drew]); omega)) | (with_reducible refine Bx.set ?_ rfl) | (with_reducible refine Bx.grown ?_ (by assumption) (by assumption))))
  have Xz1 : Bx w1 (w.heap.size + 1) 30 #[.int .i64 0, .int .i64 0, .slice none 0 0] := by (repeat' (first | (with_reducible assumption) | (refine Bx.new (by first | (with_reducible rfl) | (simp; done))) | (with_reducible refine Bx.alloc ?_ _) | (with_reducible refine Bx.drew ?_) | (with_reducible refine Bx.drewN ?_ _) | (with_reducible refine Bx.mono ?_ (by assumption)) | (with_reducible refine Bx.badly ?_ (by assumption) (by omega)) | (with_reducible refine Bx.far ?_ (by (try simp only [World.size_alloc, World.size_drew]); omega)) | (with_reducible refine Bx.set ?_ rfl) | (with_reducible refine Bx.grown ?_ (by assumption) (by assumption))))
  have hz1 := hb1.size
  (try simp only [World.size_alloc] at hz1)
  have hw1 : Below w.heap.size w w1 := by (repeat' (first | (with_reducible exact Below.refl _ _) | (with_reducible assumption) | (with_reducible refine Below.alloc ?_ ?_ _) | (with_reducible refine Below.drew ?_) | (with_reducible refine below_drewN ?_ _) | (with_reducible refine Below.setCell ?_ ?_ _) | (with_reducible refine chain ?_ (by assumption) ?_) | omega | (simp; done) | (simp; omega)))
  have c0 := Xc1.c 0 rfl
  have c1' := Xc1.c 1 rfl
  have lc := Xc1.lt
  clear hb1
  go_wp2_with (fail)
  refine (id_i_t (N := D) (n := NN) DD.out EQ.out (by omega) d32 nn5).mono ?_
  rintro ee w2 ⟨g, rfl, hK2, hg2, hb2⟩
  have Xc2 := Xc1.mono hb2
  have Xz2 := Xz1.mono hb2
  have hz2 := hb2.size
  have hlg := hK2.lt
  have hw2 : Below w.heap.size w w2 := chain hw1 hb2 hw1.size
  have HK2 := hid hK2
  clear hK2 hb2 c0 c1' lc Xc1 Xz1
  have c0 := Xc2.c 0 rfl
  have c1' := Xc2.c 1 rfl
  have lc := Xc2.lt
  go_wp2_with (fail)
  refine (ag_i (n := n) (D := D) (C := D) (N := NN) (m := m) (c1 := c1) (h0 := g) (A := A) (gs := gs) (xs := tab NN (unitP D D)) ?_ HM.out hm4 HG.out h1 h5 HD.out DD.out EQ.out ?_ (tab_len _ _) UOK.out).mono ?_
  · exact HA.out.mono (by (repeat' (first | (with_reducible exact Below.refl _ _) | (with_reducible assumption) | (with_reducible refine Below.alloc ?_ ?_ _) | (with_reducible refine Below.drew ?_) | (with_reducible refine below_drewN ?_ _) | (with_reducible refine Below.setCell ?_ ?_ _) | (with_reducible refine chain ?_ (by assumption) ?_) | omega | (simp; done) | (simp; omega))))
  · exact HK2.out.alloc _
  rintro ee w3 ⟨r1, r2, hb3⟩
  have Xz3 := Bx.mono (Xz2.alloc _) hb3
  have hz3 := hb3.size
  (try simp only [World.size_alloc] at hz3)
  have hw3 : Below w.heap.size w w3 := by (repeat' (first | (with_reducible exact Below.refl _ _) | (with_reducible assumption) | (with_reducible refine Below.alloc ?_ ?_ _) | (with_reducible refine Below.drew ?_) | (with_reducible refine below_drewN ?_ _) | (with_reducible refine Below.setCell ?_ ?_ _) | (with_reducible refine chain ?_ (by assumption) ?_) | omega | (simp; done) | (simp; omega)))
  have d0 := Xz3.c 0 rfl
  have d1 := Xz3.c 1 rfl
  have d2' := Xz3.c 2 rfl
  have df := Xz3.f
  have dl := Xz3.lt
  clear hb3 c0 c1' lc Xc2 Xz2
  cases hq : apl n D D gs (tab NN (unitP D D)) with
  | none =>
    obtain rfl := r1 hq
    have HQ := hid hq
    clear r1 r2 hq
    go_wp2_with (fail)
    refine bodyPost_ret (v := mt 0 0 none 0 0 false) (by first | (simp [results, Try.results67, go_sem, *]; done) | (simp (disch := (first | omega | (simp; done) | (simp; omega))) [results, Try.results67, go_sem, *]; done) | (simp only [results, Try.results67]; go_simp; done)) rfl ⟨fun _ => rfl, fun zs k => ?_, ?_⟩
    · rw [HQ.out] at k; cases k
    · (repeat' (first | (with_reducible exact Below.refl _ _) | (with_reducible assumption) | (with_reducible refine Below.alloc ?_ ?_ _) | (with_reducible refine Below.drew ?_) | (with_reducible refine below_drewN ?_ _) | (with_reducible refine Below.setCell ?_ ?_ _) | (with_reducible refine chain ?_ (by assumption) ?_) | omega | (simp; done) | (simp; omega)))
  | some zs =>
    obtain ⟨h, rfl, hK, hh⟩ := r2 zs hq
    have HQ := hid hq
    have HK := hid hK
    have hhl := hK.lt
    (try simp only [World.size_alloc] at hh)
    clear r1 r2 hq hK
    go_wp2_with (fail)
    refine bodyPost_ret (v := mt (D : Int) (D : Int) (some ⟨h, 0, none⟩) NN NN true) (by first | (simp [results, Try.results67, go_sem, *]; done) | (simp (disch := (first | omega | (simp; done) | (simp; omega))) [results, Try.results67, go_sem, *]; done) | (simp only [results, Try.results67]; go_simp; done)) rfl ⟨fun k => ?_, fun zs k => ?_, ?_⟩
    · rw [HQ.out] at k; cases k
    · rw [HQ.out] at k
      obtain rfl := Option.some.inj k
      refine ⟨h, rfl, ?_, by omega⟩
      (repeat' (first | exact HK.out | refine Bk.far ?_ (by show h ≠ w.heap.size + 1; omega) _))
    · (repeat' (first | (with_reducible exact Below.refl _ _) | (with_reducible assumption) | (with_reducible refine Below.alloc ?_ ?_ _) | (with_reducible refine Below.drew ?_) | (with_reducible refine below_drewN ?_ _) | (with_reducible refine Below.setCell ?_ ?_ _) | (with_reducible refine chain ?_ (by assumption) ?_) | omega | (simp; done) | (simp; omega)))

end Go.Proofs.Ytofclfgaekjonaa
