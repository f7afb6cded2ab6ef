/- Draws of circuits. -/
import Derived.Test.YtdbnjoeanoiifaaDr1
import Derived.Test.YtdbnjoeanoiifaaAp
import Derived.Deep.LoopGhost
namespace Go.Proofs.Ytdbnjoeanoiifaa
open Go.RowKit
set_option linter.unusedVariables false
set_option linter.unusedSimpArgs false
attribute [local irreducible] World.setCell

variable {α : Type}
theorem Own.kp {E : Enc α} {W W' : World} {base g : Nat} {t : TypeId} {v : Value} {xs : List α} (h : Own E W base t v xs) (hK : Kp g W W') (hg : g < base) : Own E W' base t v xs := by
  have hl := World.ownsRow.lt h
  refine h.kept (row := some g) ⟨hK.os, hK.tape, hK.output, hK.size, fun k hk hn => hK.block k hk (fun e => hn (by rw [e]))⟩ ?_
  cases hv : v.ownBlock with
  | none => exact Or.inl rfl
  | some k => exact Or.inr (fun e => by have := (hl k hv).1; simp only [Option.some.injEq] at e; omega)
theorem Kp.grown {g : Nat} {a b c : World} {row : Option Nat} (h : Kp g a b) (hg : b.grownBy c row) (hr : ∀ r, row = some r → a.heap.size ≤ r) : Kp g a c :=
  ⟨hg.os.trans h.os, hg.tape.trans h.tape, hg.output.trans h.output, Nat.le_trans h.size hg.size, fun k hk hn => (hg.block k (Nat.lt_of_lt_of_le hk h.size) (fun e => by have := hr k e.symm; omega)).trans (h.block k hk hn)⟩
theorem Cu.grown {W W' : World} {g : Nat} {A : Option Addr} {len cap M : Nat} {row : Option Nat} (h : Cu W g A len cap M) (hg : W.grownBy W' row) (hr : ∀ r, row = some r → g < r) : Cu W' g A len cap M := by
  have hb := hg.block g h.lt (fun e => by have := hr g e.symm; omega)
  have hc : ∀ o, W'.cell? ⟨g, o, none⟩ = W.cell? ⟨g, o, none⟩ := fun o => World.cell?_of_block (a := ⟨g, o, none⟩) hb
  have hf : ∀ o, W'.frozen? ⟨g, o, none⟩ = W.frozen? ⟨g, o, none⟩ := fun o => World.frozen?_of_block (a := ⟨g, o, none⟩) hb
  obtain ⟨n, p1, p2⟩ := h.pos
  obtain ⟨m, s1, s2, s3⟩ := h.seed
  refine ⟨(hc 0).trans h.sl, ⟨n, (hc 1).trans p1, p2⟩, ⟨m, (hc 2).trans s1, s2, s3⟩, (hf 1).trans h.f1, (hf 2).trans h.f2, fun i hi => ?_⟩
  obtain ⟨b, off, z, e1, e2, e3, e4⟩ := h.bytes i hi
  exact ⟨b, off, z, e1, e2, hg.cell e3 (fun e => by have := hr b e.symm; omega), e4⟩
/-- a circuit is drawn -/
def CiP (g : Nat) (A : Option Addr) (len cap M : Nat) (n : Int) (most : Nat) (w : World) (ee : Ending) (w' : World) : Prop := ∃ (B : Option Addr) (cq : Nat) (xs : List GateV), ee = .returned (circuitV n B xs.length cq) ∧ xs.length ≤ most ∧ Own gateE w' w.heap.size 81 (.slice B xs.length cq) xs ∧ Cu w' g A len cap M ∧ Kp g w w'
theorem CiP.i {g : Nat} {A : Option Addr} {len cap M : Nat} {n : Int} {most k : Nat} {w : World} {ee : Ending} {w' : World} {B : Option Addr} {cq : Nat} {xs : List GateV} (hk : xs.length = k) (h1 : ee = .returned (circuitV n B k cq)) (h2 : k ≤ most) (h3 : Own gateE w' w.heap.size 81 (.slice B k cq) xs) (h5 : Cu w' g A len cap M) (h6 : Kp g w w') : CiP g A len cap M n most w ee w' := by
  subst hk; exact ⟨B, cq, xs, h1, h2, h3, h5, h6⟩
theorem heap_new_at {W : World} {b : Nat} {B : Obj} (h : b = W.heap.size) : (W.alloc B).heap[b]? = some B := by
  subst h
  exact heap_alloc_new _ _

set_option maxRecDepth 100000 in
set_option maxHeartbeats 8000000 in
theorem built_any {g len cap M : Nat} {A : Option Addr} {w : World} (h : Cu w g A len cap M) (hl : (len : Int) ≤ 9223372036854775807) (hM : M ≤ 100000000) {n : Int} (n1 : 1 ≤ n) (n5 : n ≤ 5) {most : Nat} (q1 : 1 ≤ most) (q2 : most ≤ 1000) {b o m cp : Nat} (m1 : 2 ≤ m) (m2 : m ≤ 1000) (hb : b ≠ g) (hz : ∀ i, i < m → ∃ z : Int, w.cell? ⟨b, o + i, none⟩ = some (.int .i64 z)) :
    Calls Try.prog 46 #[.pointer (some ⟨g, 0, none⟩), .int .i64 n, .int .i64 (most : Int), .slice (some ⟨b, o, none⟩) m cp] w fun ee w' => CiP g A len cap (M + 2 + 6 * most) n most w ee w' := by
  obtain ⟨i0, hi0, iz0, iz1, iz2⟩ := info_parts infoGate
  have HC := lay h
  have HZ := lay hz
  have hgl := h.lt
  have hb2 : b < w.heap.size := by
    obtain ⟨z, h0⟩ := hz 0 (by omega)
    have hbl := World.block_lt_of_cell? _ _ h0
    exact hbl
  have e1 : IntKind.i64.wrap ((most : Int) + 1) = (most : Int) + 1 := IntWalk.i64_in _ (by omega)
  clear h hz
  go_enter Try.func46, Try.ntmps46
  go_wp2_with (fail)
  refine (pick_all (n := (most : Int) + 1) (by omega) ((HC.out.alloc _).alloc _) hl (by omega)).mono ?_
  rintro ee w1 ⟨v0, rfl, p0, p1, hC1, hK1⟩
  have hs1 := hK1.size
  simp only [World.size_alloc] at hs1
  have XR := lay (((Bb.new (W := w) (b := w.heap.size) (t := 42) (cs := #[.int .i64 0, .slice none 0 0]) rfl).alloc _).kp hK1 (by omega))
  have XO := lay ((Bb.new (b := w.heap.size + 1) (t := 42) (cs := #[.int .i64 n, .slice none 0 0]) (by first | rfl | (simp; done))).kp hK1 (by omega))
  have K1 := lay ((((Kp.refl g w).alloc _).alloc _).trans hK1)
  have C1 := lay hC1
  obtain ⟨K, rfl⟩ := Int.eq_ofNat_of_zero_le p0
  have hK : K ≤ most := by omega
  clear hC1 hK1 p0 p1
  go_wp2_with (fail)
  go_loopg [10] K (fun r s1 wr => ∃ (j : Nat) (v : Value) (xs : List GateV), j + r = K ∧ s1 = .int .i64 (r : Int) ∧ Hid (Bb wr w.heap.size 42 #[.int .i64 0, .slice none 0 0]) ∧ Hid (Bb wr (w.heap.size + 1) 42 #[.int .i64 n, v]) ∧ Hid (Own gateE wr (w.heap.size + 1 + 1) 81 v xs) ∧ Hid (xs.length = j) ∧ Hid (Cu wr g A len cap (M + 2 + 6 * j)) ∧ w.heap.size + 1 + 1 ≤ wr.heap.size ∧ Hid (Kp g w wr))
  case atStart =>
    exact ⟨0, .slice none 0 0, [], by omega, rfl, XR, XO, lay (Own.nil _ _ _), lay rfl, lay (C1.out.mono (by omega)), by omega, K1⟩
  case round =>
    obtain ⟨j, v, xs, hj, rfl, XR2, XO2, HOw, HL, HCu, hsz, HKp⟩ := hrel
    clear XR XO K1 C1
    have R0 := XR2.out.c 0 rfl
    have R1 := XR2.out.c 1 rfl
    have Rf := XR2.out.f
    have Rl := XR2.out.lt
    have O0 := XO2.out.c 0 rfl
    have O1 := XO2.out.c 1 rfl
    have Of := XO2.out.f
    have Ol := XO2.out.lt
    cases gk with
    | zero =>
      obtain rfl : K = j := by omega
      obtain ⟨Bo, cq, rfl, -, -⟩ := HOw.out.form
      rw [HL.out] at O1
      have hOw := HOw.out
      rw [HL.out] at hOw
      have HO1 := lay hOw
      clear HOw hOw
      go_wp2_with (fail)
      refine bodyPost_ret (v := circuitV n Bo K cq) (by first | (simp [results, Try.results46, go_sem, *]; done) | (simp (disch := (first | omega | (simp; done) | (simp; omega))) [results, Try.results46, go_sem, *]; done) | (simp only [results, Try.results46]; go_simp; done)) rfl (CiP.i (xs := xs) HL.out rfl hK ?_ ?_ ?_)
      · refine Own.dn (base := w.heap.size + 1 + 1) ?_ (by omega)
        have R := HO1.out
        (repeat' (first | exact R | (refine Own.far ?_ (by dsimp only; omega) _)))
      · have C9 := HCu.out.mono (M' := M + 2 + 6 * most) (by omega)
        (repeat' (first | (with_reducible exact C9) | (with_reducible refine Cu.alloc ?_ _) | (with_reducible refine Cu.drew ?_) | (with_reducible refine Cu.set ?_ (by omega))))
      · have K9 := HKp.out
        (repeat' (first | (with_reducible exact K9) | (with_reducible refine Kp.alloc ?_ _) | (with_reducible refine Kp.drew ?_) | (with_reducible refine Kp.setNew ?_ (by omega))))
    | succ r =>
      have r0 : (0 : Int) < ((r + 1 : Nat) : Int) := by omega
      go_wp2_with (fail)
      have hvl := HOw.out.lt
      have nea : some (w.heap.size) ≠ v.ownBlock := fun e => by have := (hvl _ e.symm).1; omega
      have neo : some (w.heap.size + 1) ≠ v.ownBlock := fun e => by have := (hvl _ e.symm).1; omega
      have hmax : j + 1 ≤ maxLen := by unfold maxLen; omega
      have hby : (j + 1) * 24 ≤ 140737488355328 := by omega
      have yO0 : wr.drew.cell? ⟨w.heap.size + 1, 0, none⟩ = some (.int .i64 n) := O0
      have yO1 : wr.drew.cell? ⟨w.heap.size + 1, 1, none⟩ = some (v) := O1
      refine wp_region_x (fun w' => w'.cell? ⟨w.heap.size + 1, 0, none⟩ = some (.int .i64 n) ∧ w'.cell? ⟨w.heap.size + 1, 1, none⟩ = some (v)) 9 (by kernel_rfl) ⟨yO0, yO1⟩ (fun hS0 => ?_)
      refine wpAnyX_take (i := 0) (oi := _) (v := ?_) rfl (by kernel_rfl) (by kernel_rfl) (by kernel_rfl) (by kernel_rfl) (fun _ _ _ h => h) (Or.inl ⟨by rfl, ?_⟩) hS0 ?_
      rotate_left 1
      · (intro w hSw; (try dsimp only at hSw); go_simp; (try with_reducible rfl))
      try simp only [Act.put, List.setIfInBounds_toArray, List.set_cons_zero, List.set_cons_succ]
      refine wpAnyX_take (i := 1) (oi := _) (v := ?_) rfl (by kernel_rfl) (by kernel_rfl) (by kernel_rfl) (by kernel_rfl) (fun _ _ _ h => h) (Or.inl ⟨by rfl, ?_⟩) hS0 ?_
      rotate_left 1
      · (intro w hSw; (try dsimp only at hSw); go_simp; (try with_reducible rfl))
      try simp only [Act.put, List.setIfInBounds_toArray, List.set_cons_zero, List.set_cons_succ]
      refine wpAnyX_take (i := 2) (oi := _) (v := ?_) rfl (by kernel_rfl) (by kernel_rfl) (by kernel_rfl) (by kernel_rfl) (fun _ _ _ h => h) (Or.inl ⟨by rfl, ?_⟩) hS0 ?_
      rotate_left 1
      · (intro w hSw; (try dsimp only at hSw); go_simp; (try with_reducible rfl))
      try simp only [Act.put, List.setIfInBounds_toArray, List.set_cons_zero, List.set_cons_succ]
      refine wpAnyX_take (i := 3) (oi := _) (v := ?_) rfl (by kernel_rfl) (by kernel_rfl) (by kernel_rfl) (by kernel_rfl) (fun _ _ _ h => h) (Or.inl ⟨by rfl, ?_⟩) hS0 ?_
      rotate_left 1
      · (intro w hSw; (try dsimp only at hSw); go_simp; (try with_reducible rfl))
      try simp only [Act.put, List.setIfInBounds_toArray, List.set_cons_zero, List.set_cons_succ]
      refine wpAnyX_take (i := 4) (oi := _) (v := ?_) rfl (by kernel_rfl) (by kernel_rfl) (by kernel_rfl) (by kernel_rfl) (fun _ _ _ h => h) (Or.inl ⟨by rfl, ?_⟩) hS0 ?_
      rotate_left 1
      · (intro w hSw; (try dsimp only at hSw); go_simp; (try with_reducible rfl))
      try simp only [Act.put, List.setIfInBounds_toArray, List.set_cons_zero, List.set_cons_succ]
      refine wpAnyX_one (i := 5) (o := _) rfl (by kernel_rfl) (fun K hK => ?_)
      go_simp
      refine (gate_any HCu.out.drew hl (by omega) n1 n5 m1 m2 hb (fun i hi => ?_)).mono ?_
      · obtain ⟨z, h0⟩ := HZ.out i hi
        exact ⟨z, (HKp.out.cell (k := b) hb2 hb).trans h0⟩
      rintro ee w8 ⟨x, rfl, hC8, hK8⟩
      have hK9 : Kp g wr w8 := ⟨hK8.os, hK8.tape, hK8.output, hK8.size, hK8.block⟩
      have hs8 := hK9.size
      refine hK.out _ _ (fun _ => ?_) (fun hS1 => ?_)
      · exact ⟨(hK9.cell (k := w.heap.size + 1) Ol (by omega)).trans hS0.1, (hK9.cell (k := w.heap.size + 1) Ol (by omega)).trans hS0.2⟩
      clear hK K
      have hS1 := hS1 (by decide)
      try simp only [Act.put, List.setIfInBounds_toArray, List.set_cons_zero, List.set_cons_succ]
      refine wpAnyX_one (i := 6) (o := _) rfl (by kernel_rfl) (fun K hK => ?_)
      go_simp
      refine hK.out _ _ (fun _ => ?_) (fun hS2 => ?_)
      · first | exact ⟨kclAl hS1.1, kclAl hS1.2⟩ | exact ⟨kclAld hS1.1, kclAld hS1.2⟩
      clear hK K
      have hS2 := hS2 (by decide)
      try simp only [Act.put, List.setIfInBounds_toArray, List.set_cons_zero, List.set_cons_succ]
      refine wpAnyX_one (i := 7) (o := _) rfl (by kernel_rfl) (fun K hK => ?_)
      refine step_app1 (E := gateE) rfl _ _ _ rfl (w.heap.size + 1 + 1) 81 i0 _ 24 Try.underlying40 hi0 iz0 iz1 iz2 rfl _ _ j HL.out (by rfl) ((HOw.out.kp hK9 (by omega)).alloc _) w8.heap.size _ x #[.int .i64 x.f0, .int .i64 x.f1, .int .i64 x.f2] rfl (by rfl) (heap_new_at rfl) hmax hby (by (try simp only [World.size_alloc]); omega) ?_
      intro A2 cp2 w9 hO9 hG9 hat9
      refine hK.out _ _ (fun _ => ?_) (fun hS3 => ?_)
      · exact ⟨hG9.cell hS2.1 neo, hG9.cell hS2.2 neo⟩
      clear hK K
      have hS3 := hS3 (by decide)
      try simp only [Act.put, List.setIfInBounds_toArray, List.set_cons_zero, List.set_cons_succ]
      refine wpAnyX_take (i := 8) (oi := _) (v := ?_) rfl (by kernel_rfl) (by kernel_rfl) (by kernel_rfl) (by kernel_rfl) (fun _ _ _ h => h) (Or.inl ⟨by rfl, ?_⟩) hS3 ?_
      rotate_left 1
      · (intro w hSw; (try dsimp only at hSw); go_simp; (try with_reducible rfl))
      try simp only [Act.put, List.setIfInBounds_toArray, List.set_cons_zero, List.set_cons_succ]
      refine wpAnyX_one (i := 9) (o := _) rfl (by kernel_rfl) (fun K hK => ?_)
      have PO := ((XO2.out.kp hK9 (by omega)).alloc _).grown hG9 neo
      have po1 := PO.c 1 rfl
      have pof := PO.f
      go_simp
      refine hK.out _ _ (fun h => absurd rfl h) (fun _ => ?_)
      clear hK K
      try simp only [Act.put, List.setIfInBounds_toArray, List.set_cons_zero, List.set_cons_succ]
      refine wpAnyX_done (by kernel_rfl) ?_ _
      go_wp2_with (fail)
      go_roundg r
      case measure => omega
      case rel =>
        have hz9 := hG9.size
        simp only [World.size_alloc] at hz9
        refine ⟨j + 1, .slice A2 (j + 1) cp2, xs ++ [x], by omega, by go_num, ?_, ?_, ?_, ?_, ?_, by (try simp only [World.size_setCell]); omega, ?_⟩
        · show Bb _ _ _ _; exact (((XR2.out.kp hK9 (by omega)).alloc _).grown hG9 nea).far (by omega)
        · show Bb _ _ _ _; exact PO.set rfl
        · show Own _ _ _ _ _ _; exact hO9.far (by show w.heap.size + 1 < _; omega) _
        · show _ = _; rw [List.length_append, HL.out]; rfl
        · show Cu _ _ _ _ _ _; exact ((((hC8.alloc _).grown hG9 (fun r hr => by have := (hvl _ hr).1; omega)).set (by omega)).mono (by omega))
        · show Kp _ _ _; exact (((HKp.out.trans hK9).alloc _).grown hG9 (fun r hr => by have := (hvl _ hr).1; omega)).setNew (by omega)

end Go.Proofs.Ytdbnjoeanoiifaa
