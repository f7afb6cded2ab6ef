/- Draws of gates. -/
import Derived.Test.YtdbnjoeanoiifaaCu4
import Derived.Test.YtdbnjoeanoiifaaRgx
namespace Go.Proofs.Ytdbnjoeanoiifaa
open Go.RowKit
set_option linter.unusedVariables false
set_option linter.unusedSimpArgs false
attribute [local irreducible] World.setCell

theorem Bb.kp {g b : Nat} {W W' : World} {t : TypeId} {cs : Array Value} (h : Bb W b t cs) (hK : Kp g W W') (hne : b ≠ g) : Bb W' b t cs := (hK.block b h.lt hne).trans h
/-- a number is drawn -/
def PkP (n : Int) (g : Nat) (A : Option Addr) (len cap M : Nat) (w : World) (ee : Ending) (w' : World) : Prop := ∃ v : Int, ee = .returned (.int .i64 v) ∧ 0 ≤ v ∧ (v < n ∨ v = 0) ∧ Cu w' g A len cap M ∧ Kp g w w'
/-- a gate is drawn -/
def GtP (g : Nat) (A : Option Addr) (len cap M : Nat) (w : World) (ee : Ending) (w' : World) : Prop := ∃ x : GateV, ee = .returned x.v ∧ Cu w' g A len cap M ∧ Kp g w w'
set_option maxRecDepth 100000 in
set_option maxHeartbeats 1000000 in
theorem pick_1 {n : Int} (hn : n ≤ 1) {g : Nat} (w : World) :
    Calls Try.prog 55 #[.pointer (some ⟨g, 0, none⟩), .int .i64 n] w fun ee w' => ee = .returned (.int .i64 0) ∧ w = w' := by
  go_enter Try.func55, Try.ntmps55
  go_wp2_with (fail)
  go_ret
  exact ⟨rfl, rfl⟩

theorem pick_all {n : Int} (h2 : n ≤ 100000) {g len cap M : Nat} {A : Option Addr} {w : World} (h : Cu w g A len cap M) (hl : (len : Int) ≤ 9223372036854775807) (hM : M ≤ 10000000000) :
    Calls Try.prog 55 #[.pointer (some ⟨g, 0, none⟩), .int .i64 n] w fun ee w' => PkP n g A len cap (M + 2) w ee w' := by
  by_cases h1 : n ≤ 1
  · exact (pick_1 h1 w).mono fun ee w' ⟨he, hw⟩ => by
      subst hw
      exact ⟨0, he, Int.le_refl _, Or.inr rfl, h.mono (by omega), Kp.refl _ _⟩
  · exact (pick_any n (by omega) h2 h hl hM).mono fun ee w' ⟨v, he, p0, p1, hc, hk⟩ => ⟨v, he, p0, Or.inl p1, hc, hk⟩
set_option maxRecDepth 100000 in
set_option maxHeartbeats 8000000 in
theorem gate_any {g len cap M : Nat} {A : Option Addr} {w : World} (h : Cu w g A len cap M) (hl : (len : Int) ≤ 9223372036854775807) (hM : M ≤ 1000000000) {n : Int} (n1 : 1 ≤ n) (n5 : n ≤ 5) {b o m cp : Nat} (m1 : 2 ≤ m) (m2 : m ≤ 1000) (hb : b ≠ g) (hz : ∀ i, i < m → ∃ z : Int, w.cell? ⟨b, o + i, none⟩ = some (.int .i64 z)) :
    Calls Try.prog 79 #[.pointer (some ⟨g, 0, none⟩), .int .i64 n, .slice (some ⟨b, o, none⟩) m cp] w fun ee w' => GtP g A len cap (M + 6) w ee w' := by
  have HC := lay h
  have HZ := lay hz
  have hgl := h.lt
  clear h hz
  go_enter Try.func79, Try.ntmps79
  go_wp2_with (fail)
  refine (pick_any (m : Int) (by omega) (by omega) (HC.out.alloc _) hl (by omega)).mono ?_
  rintro ee w1 ⟨v0, rfl, p0, p1, hC1, hK1⟩
  have hs1 := hK1.size
  simp only [World.size_alloc] at hs1
  have XR := lay ((Bb.new (W := w) (b := w.heap.size) (t := 81) (cs := #[.int .i64 0, .int .i64 0, .int .i64 0]) rfl).kp hK1 (by omega))
  obtain ⟨i, rfl⟩ := Int.eq_ofNat_of_zero_le p0
  have hi : i < m := by omega
  obtain ⟨z, hz⟩ := HZ.out i hi
  have hbl := World.block_lt_of_cell? _ _ hz
  have hbl2 : b < w.heap.size := hbl
  have z1 : w1.cell? ⟨b, o + i, none⟩ = some (.int .i64 z) := (hK1.cell (k := b) (by (try simp only [World.size_alloc]); omega) hb).trans (kal hz)
  have K1 := lay (((Kp.refl g w).alloc _).trans hK1)
  have C1 := lay hC1
  have i1 : (i : Int) < (m : Int) := by omega
  clear hC1 hK1 hz hbl p0 p1
  have R0 := XR.out.c 0 rfl
  have R1 := XR.out.c 1 rfl
  have R2 := XR.out.c 2 rfl
  have Rf := XR.out.f
  have Rl := XR.out.lt
  by_cases h12 : z = 12
  · subst h12
    go_wp2_with (fail)
    have K9 := K1.out
    have C9 := C1.out.mono (M' := M + 6) (by omega)
    refine bodyPost_ret (v := .agg #[.int .i64 12, .int .i64 0, .int .i64 0]) (by first | (simp [results, Try.results79, go_sem, *]; done) | (simp (disch := (first | omega | (simp; done) | (simp; omega))) [results, Try.results79, go_sem, *]; done) | (simp only [results, Try.results79]; go_simp; done)) rfl ⟨⟨12, 0, 0⟩, rfl, ?_, ?_⟩
    · ((repeat' (first | (with_reducible exact C9) | (with_reducible refine Cu.alloc ?_ _) | (with_reducible refine Cu.drew ?_) | (with_reducible refine Cu.set ?_ (by omega)))))
    · (repeat' (first | (with_reducible exact K9) | (with_reducible refine Kp.alloc ?_ _) | (with_reducible refine Kp.drew ?_) | (with_reducible refine Kp.setNew ?_ (by omega))))
  · have z12 : (z == 12) = false := by simpa using h12
    go_wp2_with (fail)
    refine (pick_all (n := n) (by omega) (M := M + 2) (C1.out.alloc _) hl (by omega)).mono ?_
    rintro ee w2 ⟨v1, rfl, q0, q1, hC2, hK2⟩
    have hs2 := hK2.size
    simp only [World.size_alloc] at hs2
    have XR2 := lay ((XR.out.alloc _).kp hK2 (by omega))
    have XG := lay ((Bb.new (W := w1) (b := w1.heap.size) (t := 81) (cs := #[.int .i64 z, .int .i64 0, .int .i64 0]) rfl).kp hK2 (by omega))
    have K2 := lay ((K1.out.alloc _).trans hK2)
    have C2 := lay hC2
    clear hC2 hK2 K1 C1 XR R0 R1 R2 Rf Rl z1
    have R0 := XR2.out.c 0 rfl
    have R1 := XR2.out.c 1 rfl
    have R2 := XR2.out.c 2 rfl
    have Rf := XR2.out.f
    have Rl := XR2.out.lt
    have G0 := XG.out.c 0 rfl
    have G1 := XG.out.c 1 rfl
    have G2 := XG.out.c 2 rfl
    have Gf := XG.out.f
    have Gl := XG.out.lt
    cases hin : inB z 9 11
    · have HI := lay hin
      clear hin
      go_wp2_with (first | (go_at_call 63; ((with_reducible refine (lin HI.out _).mono ?_); rintro ee w9 ⟨rfl, rfl⟩)))
      have K9 := K2.out
      have C9 := C2.out.mono (M' := M + 6) (by omega)
      refine bodyPost_ret (v := .agg #[.int .i64 z, .int .i64 v1, .int .i64 0]) (by first | (simp [results, Try.results79, go_sem, *]; done) | (simp (disch := (first | omega | (simp; done) | (simp; omega))) [results, Try.results79, go_sem, *]; done) | (simp only [results, Try.results79]; go_simp; done)) rfl ⟨⟨z, v1, 0⟩, rfl, ?_, ?_⟩
      · ((repeat' (first | (with_reducible exact C9) | (with_reducible refine Cu.alloc ?_ _) | (with_reducible refine Cu.drew ?_) | (with_reducible refine Cu.set ?_ (by omega)))))
      · (repeat' (first | (with_reducible exact K9) | (with_reducible refine Kp.alloc ?_ _) | (with_reducible refine Kp.drew ?_) | (with_reducible refine Kp.setNew ?_ (by omega))))
    · have HI := lay hin
      clear hin
      by_cases hn1 : n = 1
      · subst hn1
        go_wp2_with (first | (go_at_call 63; ((with_reducible refine (lin HI.out _).mono ?_); rintro ee w9 ⟨rfl, rfl⟩)))
        have K9 := K2.out
        have C9 := C2.out.mono (M' := M + 6) (by omega)
        refine bodyPost_ret (v := .agg #[.int .i64 1, .int .i64 0, .int .i64 0]) (by first | (simp [results, Try.results79, go_sem, *]; done) | (simp (disch := (first | omega | (simp; done) | (simp; omega))) [results, Try.results79, go_sem, *]; done) | (simp only [results, Try.results79]; go_simp; done)) rfl ⟨⟨1, 0, 0⟩, rfl, ?_, ?_⟩
        · ((repeat' (first | (with_reducible exact C9) | (with_reducible refine Cu.alloc ?_ _) | (with_reducible refine Cu.drew ?_) | (with_reducible refine Cu.set ?_ (by omega)))))
        · (repeat' (first | (with_reducible exact K9) | (with_reducible refine Kp.alloc ?_ _) | (with_reducible refine Kp.drew ?_) | (with_reducible refine Kp.setNew ?_ (by omega))))
      · have n12 : (n == 1) = false := by simpa using hn1
        have nn0 : ¬ (n = 0) := by omega
        go_wp2_with (first | (go_at_call 63; ((with_reducible refine (lin HI.out _).mono ?_); rintro ee w9 ⟨rfl, rfl⟩)))
        obtain ⟨W, hW⟩ : ∃ W, W = w2.setCell ⟨w1.heap.size, 1, none⟩ (.int .i64 v1) := ⟨_, rfl⟩
        rw [← hW]
        have XGW : Hid (Bb W w1.heap.size 81 #[.int .i64 z, .int .i64 v1, .int .i64 0]) := by show Bb _ _ _ _; rw [hW]; exact XG.out.set rfl
        have XRW : Hid (Bb W w.heap.size 81 #[.int .i64 0, .int .i64 0, .int .i64 0]) := by show Bb _ _ _ _; rw [hW]; exact XR2.out.far (by omega)
        have CW : Hid (Cu W g A len cap (M + 2 + 2)) := by show Cu _ _ _ _ _ _; rw [hW]; exact C2.out.set (by omega)
        have KW : Hid (Kp g w W) := by show Kp _ _ _; rw [hW]; exact K2.out.setNew (by omega)
        have hgw : w1.heap.size < W.heap.size := XGW.out.lt
        clear hW R0 R1 R2 Rf Rl G0 G1 G2 Gf Gl XG XR2 C2 K2
        have g0 := XGW.out.c 0 rfl
        have g1 := XGW.out.c 1 rfl
        have e1 : IntKind.i64.wrap (v1 + 1) = v1 + 1 := IntWalk.i64_in _ (by omega)
        have e2 : IntKind.i64.wrap (n - 1) = n - 1 := IntWalk.i64_in _ (by omega)
        have yg0 : W.drew.cell? ⟨w1.heap.size, 0, none⟩ = some (.int .i64 z) := g0
        have yg1 : W.drew.cell? ⟨w1.heap.size, 1, none⟩ = some (.int .i64 v1) := g1
        refine wp_region_x (fun w' => w'.cell? ⟨w1.heap.size, 0, none⟩ = some (.int .i64 z) ∧ w'.cell? ⟨w1.heap.size, 1, none⟩ = some (.int .i64 v1)) 11 (by kernel_rfl) ⟨yg0, yg1⟩ (fun hS0 => ?_)
        refine wpAnyX_take (i := 0) (oi := _) (v := ?_) rfl (by kernel_rfl) (by kernel_rfl) (by kernel_rfl) (by kernel_rfl) (fun _ _ _ h => h) (Or.inl ⟨by rfl, ?_⟩) hS0 ?_
        rotate_left 1
        · (intro w hSw; (try dsimp only at hSw); go_simp; (try with_reducible rfl))
        try simp only [Act.put, List.setIfInBounds_toArray, List.set_cons_zero, List.set_cons_succ]
        refine wpAnyX_take (i := 1) (oi := _) (v := ?_) rfl (by kernel_rfl) (by kernel_rfl) (by kernel_rfl) (by kernel_rfl) (fun _ _ _ h => h) (Or.inl ⟨by rfl, ?_⟩) hS0 ?_
        rotate_left 1
        · (intro w hSw; (try dsimp only at hSw); go_simp; (try with_reducible rfl))
        try simp only [Act.put, List.setIfInBounds_toArray, List.set_cons_zero, List.set_cons_succ]
        refine wpAnyX_take (i := 2) (oi := _) (v := ?_) rfl (by kernel_rfl) (by kernel_rfl) (by kernel_rfl) (by kernel_rfl) (fun _ _ _ h => h) (Or.inl ⟨by rfl, ?_⟩) hS0 ?_
        rotate_left 1
        · (intro w hSw; (try dsimp only at hSw); go_simp; (try with_reducible rfl))
        try simp only [Act.put, List.setIfInBounds_toArray, List.set_cons_zero, List.set_cons_succ]
        refine wpAnyX_take (i := 3) (oi := _) (v := ?_) rfl (by kernel_rfl) (by kernel_rfl) (by kernel_rfl) (by kernel_rfl) (fun _ _ _ h => h) (Or.inl ⟨by rfl, ?_⟩) hS0 ?_
        rotate_left 1
        · (intro w hSw; (try dsimp only at hSw); go_simp; (try with_reducible rfl))
        try simp only [Act.put, List.setIfInBounds_toArray, List.set_cons_zero, List.set_cons_succ]
        refine wpAnyX_take (i := 4) (oi := _) (v := ?_) rfl (by kernel_rfl) (by kernel_rfl) (by kernel_rfl) (by kernel_rfl) (fun _ _ _ h => h) (Or.inl ⟨by rfl, ?_⟩) hS0 ?_
        rotate_left 1
        · (intro w hSw; (try dsimp only at hSw); go_simp; (try with_reducible rfl))
        try simp only [Act.put, List.setIfInBounds_toArray, List.set_cons_zero, List.set_cons_succ]
        refine wpAnyX_take (i := 5) (oi := _) (v := ?_) rfl (by kernel_rfl) (by kernel_rfl) (by kernel_rfl) (by kernel_rfl) (fun _ _ _ h => h) (Or.inl ⟨by rfl, ?_⟩) hS0 ?_
        rotate_left 1
        · (intro w hSw; (try dsimp only at hSw); go_simp; (try with_reducible rfl))
        try simp only [Act.put, List.setIfInBounds_toArray, List.set_cons_zero, List.set_cons_succ]
        refine wpAnyX_take (i := 8) (oi := _) (v := ?_) rfl (by kernel_rfl) (by kernel_rfl) (by kernel_rfl) (by kernel_rfl) (fun _ _ _ h => h) (Or.inl ⟨by rfl, ?_⟩) hS0 ?_
        rotate_left 1
        · (intro w hSw; (try dsimp only at hSw); go_simp; (try with_reducible rfl))
        try simp only [Act.put, List.setIfInBounds_toArray, List.set_cons_zero, List.set_cons_succ]
        refine wpAnyX_one (i := 6) (o := _) rfl (by kernel_rfl) (fun K hK => ?_)
        go_simp
        refine (pick_all (n := n - 1) (by omega) (M := M + 2 + 2) CW.out.drew hl (by omega)).mono ?_
        rintro ee w3 ⟨u, rfl, u0, u1, hC3, hK3⟩
        have hK3' : Kp g W w3 := ⟨hK3.os, hK3.tape, hK3.output, hK3.size, hK3.block⟩
        have hs3 := hK3'.size
        have u4 : u ≤ 4 := by omega
        have e3 : IntKind.i64.wrap (v1 + 1 + u) = v1 + 1 + u := IntWalk.i64_in _ (by omega)
        obtain ⟨r, hr⟩ : ∃ r, r = (v1 + 1 + u).tmod n := ⟨_, rfl⟩
        have r1 : r = (v1 + 1 + u) % n := by rw [hr, Int.tmod_eq_emod_of_nonneg (by omega)]
        have r2 := Int.emod_nonneg (v1 + 1 + u) (show n ≠ 0 by omega)
        have r3 := Int.emod_lt_of_pos (v1 + 1 + u) (show 0 < n by omega)
        have e4 : (v1 + 1 + u) % n = r := r1.symm
        have e5 : (v1 + 1 + u).tmod n = r := hr.symm
        have e6 : IntKind.i64.wrap ((v1 + 1 + u).tmod n) = r := by rw [e5]; exact IntWalk.i64_in _ (by omega)
        clear hr r1 r2 r3
        refine hK.out _ _ (fun _ => ?_) (fun hS1 => ?_)
        · exact ⟨(hK3'.cell (k := w1.heap.size) hgw (by omega)).trans hS0.1, (hK3'.cell (k := w1.heap.size) hgw (by omega)).trans hS0.2⟩
        clear hK K
        have hS1 := hS1 (by decide)
        try simp only [Act.put, List.setIfInBounds_toArray, List.set_cons_zero, List.set_cons_succ]
        refine wpAnyX_take (i := 7) (oi := _) (v := ?_) rfl (by kernel_rfl) (by kernel_rfl) (by kernel_rfl) (by kernel_rfl) (fun _ _ _ h => h) (Or.inl ⟨by rfl, ?_⟩) hS1 ?_
        rotate_left 1
        · (intro w hSw; (try dsimp only at hSw); go_simp; (try with_reducible rfl))
        try simp only [Act.put, List.setIfInBounds_toArray, List.set_cons_zero, List.set_cons_succ]
        refine wpAnyX_take (i := 9) (oi := _) (v := ?_) rfl (by kernel_rfl) (by kernel_rfl) (by kernel_rfl) (by kernel_rfl) (fun _ _ _ h => h) (Or.inl ⟨by rfl, ?_⟩) hS1 ?_
        rotate_left 1
        · (intro w hSw; (try dsimp only at hSw); go_simp; (try with_reducible rfl))
        try simp only [Act.put, List.setIfInBounds_toArray, List.set_cons_zero, List.set_cons_succ]
        refine wpAnyX_take (i := 10) (oi := _) (v := ?_) rfl (by kernel_rfl) (by kernel_rfl) (by kernel_rfl) (by kernel_rfl) (fun _ _ _ h => h) (Or.inl ⟨by rfl, ?_⟩) hS1 ?_
        rotate_left 1
        · (intro w hSw; (try dsimp only at hSw); go_simp; (try with_reducible rfl))
        try simp only [Act.put, List.setIfInBounds_toArray, List.set_cons_zero, List.set_cons_succ]
        refine wpAnyX_one (i := 11) (o := _) rfl (by kernel_rfl) (fun K hK => ?_)
        have XG3 := XGW.out.kp hK3' (by omega)
        have XR3 := XRW.out.kp hK3' (by omega)
        have y0 := XG3.c 0 rfl
        have y1 := XG3.c 1 rfl
        have y2 := XG3.c 2 rfl
        have yf := XG3.f
        have yl := XG3.lt
        have x0 := XR3.c 0 rfl
        have x1 := XR3.c 1 rfl
        have x2 := XR3.c 2 rfl
        have xf := XR3.f
        have xl := XR3.lt
        go_simp
        refine hK.out _ _ (fun h => absurd rfl h) (fun _ => ?_)
        clear hK K
        try simp only [Act.put, List.setIfInBounds_toArray, List.set_cons_zero, List.set_cons_succ]
        refine wpAnyX_done (by kernel_rfl) ?_ _
        go_wp2_with (fail)
        have K9 := KW.out.trans hK3'
        have C9 := hC3.mono (M' := M + 6) (by omega)
        refine bodyPost_ret (v := .agg #[.int .i64 z, .int .i64 v1, .int .i64 r]) (by first | (simp [results, Try.results79, go_sem, *]; done) | (simp (disch := (first | omega | (simp; done) | (simp; omega))) [results, Try.results79, go_sem, *]; done) | (simp only [results, Try.results79]; go_simp; done)) rfl ⟨⟨z, v1, r⟩, rfl, ?_, ?_⟩
        · ((repeat' (first | (with_reducible exact C9) | (with_reducible refine Cu.alloc ?_ _) | (with_reducible refine Cu.drew ?_) | (with_reducible refine Cu.set ?_ (by omega)))))
        · (repeat' (first | (with_reducible exact K9) | (with_reducible refine Kp.alloc ?_ _) | (with_reducible refine Kp.drew ?_) | (with_reducible refine Kp.setNew ?_ (by omega))))

end Go.Proofs.Ytdbnjoeanoiifaa
