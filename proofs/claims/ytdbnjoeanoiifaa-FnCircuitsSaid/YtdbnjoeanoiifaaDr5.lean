/- Draws of circuits: two circuits. -/
import Derived.Test.YtdbnjoeanoiifaaDr4
import Derived.Test.YtdbnjoeanoiifaaKap
namespace Go.Proofs.Ytdbnjoeanoiifaa
open Go.RowKit
set_option linter.unusedVariables false
set_option linter.unusedSimpArgs false
attribute [local irreducible] World.setCell

theorem Own.rdS {α : Type} {E : Enc α} {W : World} {base : Nat} {t : TypeId} {B : Option Addr} {n cq : Nat} {xs : List α} (h : Own E W base t (.slice B n cq) xs) : Rd E W B xs ∧ ∀ a, B = some a → base ≤ a.block := by
  obtain ⟨A', cp', e, r, l⟩ := h.form
  cases e
  exact ⟨r, fun a ha => (l a ha).1⟩
theorem Own.hiS {α : Type} {E : Enc α} {W : World} {base : Nat} {t : TypeId} {B : Option Addr} {n cq : Nat} {xs : List α} (h : Own E W base t (.slice B n cq) xs) : ∀ a, B = some a → a.block < W.heap.size := by
  obtain ⟨A', cp', e, r, l⟩ := h.form
  cases e
  exact fun a ha => (l a ha).2
theorem kst2 {a : World} {g k o : Nat} {v v0 v1 : Value} (hne : g ≠ k) (h : a.cell? ⟨k, o, none⟩ = some v) : ((a.setCell ⟨g, 0, none⟩ v0).setCell ⟨g, 1, none⟩ v1).cell? ⟨k, o, none⟩ = some v := by
  rw [World.cell?_setCell_far _ _ _ _ hne, World.cell?_setCell_far _ _ _ _ hne, h]
/-- a number between -/
def BtP (P : Int → Prop) (w : World) (ee : Ending) (w' : World) : Prop := ∃ r : Int, ee = .returned (.int .i64 r) ∧ P r ∧ w = w'
set_option maxRecDepth 100000 in
set_option maxHeartbeats 1000000 in
theorem lmost (a b : Int) (w : World) :
    Calls Try.prog 48 #[.int .i64 a, .int .i64 b] w fun ee w' => BtP (fun r => a ≤ r ∧ b ≤ r ∧ (r = a ∨ r = b)) w ee w' := by
  rcases Int.lt_trichotomy a b with h | h | h
  · have h1 : ¬ b < a := by omega
    go_enter Try.func48, Try.ntmps48
    go_wp2_with (fail)
    go_ret
    first | exact ⟨a, rfl, ⟨by omega, by omega, Or.inl rfl⟩, rfl⟩ | exact ⟨b, rfl, ⟨by omega, by omega, Or.inr rfl⟩, rfl⟩
  · subst h
    go_enter Try.func48, Try.ntmps48
    go_wp2_with (fail)
    go_ret
    exact ⟨a, rfl, ⟨by omega, by omega, Or.inl rfl⟩, rfl⟩
  · have h1 : ¬ a < b := by omega
    go_enter Try.func48, Try.ntmps48
    go_wp2_with (fail)
    go_ret
    first | exact ⟨a, rfl, ⟨by omega, by omega, Or.inl rfl⟩, rfl⟩ | exact ⟨b, rfl, ⟨by omega, by omega, Or.inr rfl⟩, rfl⟩

set_option maxRecDepth 100000 in
set_option maxHeartbeats 1000000 in
theorem lleast (a b : Int) (w : World) :
    Calls Try.prog 47 #[.int .i64 a, .int .i64 b] w fun ee w' => BtP (fun r => r ≤ a ∧ r ≤ b ∧ (r = a ∨ r = b)) w ee w' := by
  rcases Int.lt_trichotomy a b with h | h | h
  · have h1 : ¬ b < a := by omega
    go_enter Try.func47, Try.ntmps47
    go_wp2_with (fail)
    go_ret
    first | exact ⟨a, rfl, ⟨by omega, by omega, Or.inl rfl⟩, rfl⟩ | exact ⟨b, rfl, ⟨by omega, by omega, Or.inr rfl⟩, rfl⟩
  · subst h
    go_enter Try.func47, Try.ntmps47
    go_wp2_with (fail)
    go_ret
    exact ⟨a, rfl, ⟨by omega, by omega, Or.inl rfl⟩, rfl⟩
  · have h1 : ¬ a < b := by omega
    go_enter Try.func47, Try.ntmps47
    go_wp2_with (fail)
    go_ret
    first | exact ⟨a, rfl, ⟨by omega, by omega, Or.inl rfl⟩, rfl⟩ | exact ⟨b, rfl, ⟨by omega, by omega, Or.inr rfl⟩, rfl⟩

/-- two circuits are drawn -/
def DcP (w : World) (ee : Ending) (w' : World) : Prop := ∃ (n m : Int) (B C : Option Addr) (cq cr : Nat) (xs ys : List GateV), ee = .returned (.tuple #[circuitV n B xs.length cq, circuitV m C ys.length cr]) ∧ xs.length ≤ 9 ∧ ys.length ≤ 9 ∧ Rd gateE w' B xs ∧ Rd gateE w' C ys ∧ Pl B xs.length cq ∧ Pl C ys.length cr ∧ Below w.heap.size w w'
theorem DcP.i {n m : Int} {B C : Option Addr} {cq cr k l : Nat} {xs ys : List GateV} {w : World} {ee : Ending} {w' : World} (hk : xs.length = k) (hl : ys.length = l) (h1 : ee = .returned (.tuple #[circuitV n B k cq, circuitV m C l cr])) (h2 : k ≤ 9) (h3 : l ≤ 9) (hp : Pl B k cq) (hq : Pl C l cr) (h4 : Rd gateE w' B xs) (h5 : Rd gateE w' C ys) (h6 : Below w.heap.size w w') : DcP w ee w' := by
  subst hk hl; exact ⟨n, m, B, C, cq, cr, xs, ys, h1, h2, h3, h4, h5, hp, hq, h6⟩
set_option maxRecDepth 100000 in
set_option maxHeartbeats 8000000 in
theorem draw_concat {A : Option Addr} {len cap : Nat} {w : World} (h : By8 w A len) :
    Calls Try.prog 16 #[.slice A len cap] w fun ee w' => DcP w ee w' := by
  have H := lay h
  have hl := h.le
  clear h
  go_enter Try.func16, Try.ntmps16
  go_wp2_with (fail)
  refine (any_any (g := w.heap.size + 1 + 1) (Cu.startg cap _ ((H.out.alloc _).alloc _) (by simp)) hl (by omega)).mono ?_
  rintro ee w1 ⟨n, n0, n6, B, cq, xs, rfl, hx, hO, hC1, hK1⟩
  have hs1 := hK1.size
  simp only [World.size_alloc] at hs1 hO
  obtain ⟨L, hL⟩ : ∃ L, xs.length = L := ⟨_, rfl⟩
  have HL := lay hL
  rw [hL] at hO hx ⊢
  have XR := lay ((((Bb.new (W := w) (b := w.heap.size) (t := 42) (cs := #[.int .i64 0, .slice none 0 0]) rfl).alloc _).alloc _).kp hK1 (by omega))
  have XS := lay (((Bb.new (b := w.heap.size + 1) (t := 42) (cs := #[.int .i64 0, .slice none 0 0]) (by first | rfl | (simp; done))).alloc _).kp hK1 (by omega))
  have B1 := lay (Kp.belowA (w := w) hK1 ((((Below.refl w.heap.size w).alloc (Nat.le_refl _) _).alloc (by simp) _).alloc (by simp; omega) _) (by omega))
  have C1 := lay hC1
  have O1 := lay hO
  have PLB := lay hO.pl
  have HVB := lay hO.hiS
  clear hK1 hC1 hO hL
  go_wp2_with (fail)
  refine (lmost n 1 _).mono ?_
  rintro ee w9 ⟨r, rfl, ⟨a1, a2, a3⟩, rfl⟩
  go_wp2_with (fail)
  refine (lleast r 5 _).mono ?_
  rintro ee w9 ⟨r2, rfl, ⟨b1, b2, b3⟩, rfl⟩
  have r21 : 1 ≤ r2 := by omega
  have r25 : r2 ≤ 5 := by omega
  clear a1 a2 a3 b1 b2 b3
  go_wp2_with (fail)
  refine (built_any ((C1.out.alloc _).alloc _) hl (by omega) (n := r2) r21 r25 (most := 6) (by omega) (by omega) (b := w1.heap.size + 1) (o := 0) (m := 4) (by omega) (by omega) (by omega) (fun i hi => ?_)).mono ?_
  · obtain rfl | rfl | rfl | rfl : i = 0 ∨ i = 1 ∨ i = 2 ∨ i = 3 := by omega
    all_goals exact ⟨_, by simp; rfl⟩
  rintro ee w2 ⟨C, cr, ys, rfl, hy, hO2, hC2, hK2⟩
  have hs2 := hK2.size
  simp only [World.size_alloc] at hs2 hO2
  obtain ⟨L2, hL2⟩ : ∃ L, ys.length = L := ⟨_, rfl⟩
  have HL2 := lay hL2
  rw [hL2] at hO2 hy ⊢
  have XR2 := lay (((XR.out.alloc _).alloc _).kp hK2 (by omega))
  have XS2 := lay (((XS.out.alloc _).alloc _).kp hK2 (by omega))
  have XX2 := lay (((Bb.new (W := w1) (b := w1.heap.size) (t := 42) (cs := #[.int .i64 n, .slice B L cq]) rfl).alloc _).kp hK2 (by omega))
  have B2 := lay (Kp.belowA (w := w) hK2 ((B1.out.alloc (by omega) _).alloc (by simp; omega) _) (by omega))
  have O12 := lay (((O1.out.alloc _).alloc _).kp hK2 (by omega))
  have O22 := lay hO2
  have PLC := lay hO2.pl
  have C2 := lay hC2
  clear hK2 hC2 hO2 hL2 XR XS B1 C1 O1
  go_wp2_with (fail)
  refine (one_any 8 (by omega) (by omega) (C2.out.alloc _) hl (by omega)).mono ?_
  rintro ee w3 ⟨v, rfl, hC3, hK3⟩
  have hs3 := hK3.size
  simp only [World.size_alloc] at hs3
  have XR3 := lay ((XR2.out.alloc _).kp hK3 (by omega))
  have XS3 := lay ((XS2.out.alloc _).kp hK3 (by omega))
  have XX3 := lay ((XX2.out.alloc _).kp hK3 (by omega))
  have XY3 := lay ((Bb.new (W := w2) (b := w2.heap.size) (t := 42) (cs := #[.int .i64 r2, .slice C L2 cr]) rfl).kp hK3 (by omega))
  have B3 := lay (Kp.belowA (w := w) hK3 (B2.out.alloc (by omega) _) (by omega))
  have O13 := lay ((O12.out.alloc _).kp hK3 (by omega))
  have O23 := lay ((O22.out.alloc _).kp hK3 (by omega))
  have C3 := lay hC3
  clear hK3 hC3 XR2 XS2 XX2 B2 O12 O22 C2
  cases v
  · go_wp2_with (fail)
    have P13 := lay (show _ ∧ _ from O13.out.rdS)
    have P23 : Hid (Rd gateE w3 C ys ∧ ∀ a, C = some a → w.heap.size + 1 + 1 + 1 ≤ a.block) := by
      show _ ∧ _
      obtain ⟨h1, h2⟩ := O23.out.rdS
      exact ⟨h1, fun a ha => by have := h2 a ha; omega⟩
    have R0 := XR3.out.c 0 rfl
    have R1 := XR3.out.c 1 rfl
    have Rf := XR3.out.f
    have Rl := XR3.out.lt
    have S0 := XS3.out.c 0 rfl
    have S1 := XS3.out.c 1 rfl
    have Sf := XS3.out.f
    have Sl := XS3.out.lt
    have X0 := XX3.out.c 0 rfl
    have X1 := XX3.out.c 1 rfl
    have Xf := XX3.out.f
    have Xl := XX3.out.lt
    have Y0 := XY3.out.c 0 rfl
    have Y1 := XY3.out.c 1 rfl
    have Yf := XY3.out.f
    have Yl := XY3.out.lt
    have yX0 : w3.drew.cell? ⟨w1.heap.size, 0, none⟩ = some (.int .i64 n) := X0
    have yX1 : w3.drew.cell? ⟨w1.heap.size, 1, none⟩ = some (.slice B L cq) := X1
    have yY0 : w3.drew.cell? ⟨w2.heap.size, 0, none⟩ = some (.int .i64 r2) := Y0
    have yY1 : w3.drew.cell? ⟨w2.heap.size, 1, none⟩ = some (.slice C L2 cr) := Y1
    refine wp_region_x (fun w' => w'.cell? ⟨w1.heap.size, 0, none⟩ = some (.int .i64 n) ∧ w'.cell? ⟨w1.heap.size, 1, none⟩ = some (.slice B L cq) ∧ w'.cell? ⟨w2.heap.size, 0, none⟩ = some (.int .i64 r2) ∧ w'.cell? ⟨w2.heap.size, 1, none⟩ = some (.slice C L2 cr)) 3 (by kernel_rfl) ⟨yX0, yX1, yY0, yY1⟩ (fun hS0 => ?_)
    refine wpAnyX_take (i := 0) (oi := _) (v := ?_) rfl (by kernel_rfl) (by kernel_rfl) (by kernel_rfl) (by kernel_rfl) (fun _ _ _ h => h) (Or.inl ⟨by rfl, ?_⟩) hS0 ?_
    rotate_left 1
    · (intro w hSw; (try dsimp only at hSw); go_simp; (try with_reducible rfl))
    try simp only [Act.put, List.setIfInBounds_toArray, List.set_cons_zero, List.set_cons_succ]
    refine wpAnyX_take (i := 1) (oi := _) (v := ?_) rfl (by kernel_rfl) (by kernel_rfl) (by kernel_rfl) (by kernel_rfl) (fun _ _ _ h => h) (Or.inl ⟨by rfl, ?_⟩) hS0 ?_
    rotate_left 1
    · (intro w hSw; (try dsimp only at hSw); go_simp; (try with_reducible rfl))
    try simp only [Act.put, List.setIfInBounds_toArray, List.set_cons_zero, List.set_cons_succ]
    refine wpAnyX_one (i := 2) (o := _) rfl (by kernel_rfl) (fun K hK => ?_)
    go_simp
    refine hK.out _ _ (fun _ => ?_) (fun hS1 => ?_)
    · exact ⟨kst2 (by omega) (hS0.1), kst2 (by omega) (hS0.2.1), kst2 (by omega) (hS0.2.2.1), kst2 (by omega) (hS0.2.2.2)⟩
    clear hK K
    have hS1 := hS1 (by decide)
    try simp only [Act.put, List.setIfInBounds_toArray, List.set_cons_zero, List.set_cons_succ]
    refine wpAnyX_one (i := 3) (o := _) rfl (by kernel_rfl) (fun K hK => ?_)
    have PS := (Bb.far (Bb.far (Bb.drew XS3.out) (g := w.heap.size) (o := 0) (u := .int .i64 n) (by omega)) (g := w.heap.size) (o := 1) (u := .slice B L cq) (by omega))
    have ps0 := PS.c 0 rfl
    have ps1 := PS.c 1 rfl
    have psf := PS.f
    have psl := PS.lt
    go_simp
    refine hK.out _ _ (fun h => absurd rfl h) (fun _ => ?_)
    clear hK K
    try simp only [Act.put, List.setIfInBounds_toArray, List.set_cons_zero, List.set_cons_succ]
    refine wpAnyX_done (by kernel_rfl) ?_ _
    go_wp2_with (fail)
    refine bodyPost_ret (v := .tuple #[circuitV n B L cq, circuitV r2 C L2 cr]) (by first | (simp [results, Try.results16, go_sem, *]; done) | (simp (disch := (first | omega | (simp; done) | (simp; omega))) [results, Try.results16, go_sem, *]; done) | (simp only [results, Try.results16]; go_simp; done)) rfl (DcP.i HL.out HL2.out rfl (by omega) (by omega) PLB.out PLC.out ?_ ?_ ?_)
    · obtain ⟨h1, h2⟩ := P13.out
      (repeat' (first | exact h1 | (refine Rd.far ?_ (fun a ha => by have h9 := h2 a ha; dsimp only; omega) _)))
    · obtain ⟨h1, h2⟩ := P23.out
      (repeat' (first | exact h1 | (refine Rd.far ?_ (fun a ha => by have h9 := h2 a ha; dsimp only; omega) _)))
    · have hB9 := B3.out
      have hB9s := hB9.size
      (repeat' (first | (with_reducible exact Below.refl _ _) | (with_reducible assumption) | (with_reducible refine Below.alloc ?_ ?_ _) | (with_reducible refine Below.drew ?_) | (with_reducible refine bdN ?_ _) | (with_reducible refine Below.setCell ?_ ?_ _) | (with_reducible refine chn ?_ (by assumption) ?_) | omega | (simp; done) | (simp; omega)))
  · go_wp2_with (fail)
    refine (any_any C3.out hl (by omega)).mono ?_
    rintro ee w4 ⟨m, m0, m6, D, cs, zs, rfl, hzl, hO4, hC4, hK4⟩
    have hs4 := hK4.size
    obtain ⟨L3, hL3⟩ : ∃ L, zs.length = L := ⟨_, rfl⟩
    have HL3 := lay hL3
    rw [hL3] at hO4 hzl ⊢
    have XR4 := lay (XR3.out.kp hK4 (by omega))
    have XS4 := lay (XS3.out.kp hK4 (by omega))
    have XX4 := lay (XX3.out.kp hK4 (by omega))
    have XY4 := lay (XY3.out.kp hK4 (by omega))
    have B4 := lay (Kp.belowA (w := w) hK4 B3.out (by omega))
    have O14 := lay (O13.out.kp hK4 (by omega))
    have O34 := lay hO4
    have PLD := lay hO4.pl
    clear hK4 hC4 hO4 hL3 XR3 XS3 XX3 XY3 B3 O13 O23 C3
    have t0 := XY4.out.c 0 rfl
    have t1 := XY4.out.c 1 rfl
    have tf := XY4.out.f
    have tl := XY4.out.lt
    go_wp2_with (fail)
    obtain ⟨W, hW⟩ : ∃ W, W = ((w4.setCell ⟨w2.heap.size, 0, none⟩ (.int .i64 m)).setCell ⟨w2.heap.size, 1, none⟩ (.slice D L3 cs)) := ⟨_, rfl⟩
    rw [← hW]
    have XR5 : Hid (Bb W w.heap.size 42 #[.int .i64 0, .slice none 0 0]) := by show Bb _ _ _ _; rw [hW]; exact (XR4.out.far (by omega)).far (by omega)
    have XS5 : Hid (Bb W (w.heap.size + 1) 42 #[.int .i64 0, .slice none 0 0]) := by show Bb _ _ _ _; rw [hW]; exact (XS4.out.far (by omega)).far (by omega)
    have XX5 : Hid (Bb W w1.heap.size 42 #[.int .i64 n, .slice B L cq]) := by show Bb _ _ _ _; rw [hW]; exact (XX4.out.far (by omega)).far (by omega)
    have XY5 : Hid (Bb W w2.heap.size 42 #[.int .i64 m, .slice D L3 cs]) := by show Bb _ _ _ _; rw [hW]; exact (XY4.out.set (i := 0) (u := .int .i64 m) rfl).set (i := 1) (u := .slice D L3 cs) rfl
    have B5 : Hid (Below w.heap.size w W) := by show Below _ _ _; rw [hW]; exact (B4.out.setCell (by show w.heap.size ≤ w2.heap.size; omega) _).setCell (by show w.heap.size ≤ w2.heap.size; omega) _
    have HV := lay O14.out.lt
    have hW2 : w2.heap.size ≤ w3.heap.size := by omega
    have P15 : Hid (Rd gateE W B xs ∧ ∀ a, B = some a → w.heap.size + 1 + 1 + 1 ≤ a.block) := by
      show _ ∧ _
      obtain ⟨h1, h2⟩ := O14.out.rdS
      refine ⟨?_, h2⟩
      rw [hW]
      have h3 : ∀ a, B = some a → a.block ≠ w2.heap.size := fun a ha => by
        have := HVB.out a ha
        omega
      exact (h1.far h3 _).far h3 _
    have P35 : Hid (Rd gateE W D zs ∧ ∀ a, D = some a → w.heap.size + 1 + 1 + 1 ≤ a.block) := by
      show _ ∧ _
      obtain ⟨h1, h2⟩ := O34.out.rdS
      refine ⟨?_, fun a ha => by have := h2 a ha; omega⟩
      rw [hW]
      have h3 : ∀ a, D = some a → a.block ≠ w2.heap.size := fun a ha => by have := h2 a ha; omega
      exact (h1.far h3 _).far h3 _
    clear hW t0 t1 tf tl XR4 XS4 XX4 XY4 B4 O14 O34
    have R0 := XR5.out.c 0 rfl
    have R1 := XR5.out.c 1 rfl
    have Rf := XR5.out.f
    have Rl := XR5.out.lt
    have S0 := XS5.out.c 0 rfl
    have S1 := XS5.out.c 1 rfl
    have Sf := XS5.out.f
    have Sl := XS5.out.lt
    have X0 := XX5.out.c 0 rfl
    have X1 := XX5.out.c 1 rfl
    have Xf := XX5.out.f
    have Xl := XX5.out.lt
    have Y0 := XY5.out.c 0 rfl
    have Y1 := XY5.out.c 1 rfl
    have Yf := XY5.out.f
    have Yl := XY5.out.lt
    have yX0 : W.drew.cell? ⟨w1.heap.size, 0, none⟩ = some (.int .i64 n) := X0
    have yX1 : W.drew.cell? ⟨w1.heap.size, 1, none⟩ = some (.slice B L cq) := X1
    have yY0 : W.drew.cell? ⟨w2.heap.size, 0, none⟩ = some (.int .i64 m) := Y0
    have yY1 : W.drew.cell? ⟨w2.heap.size, 1, none⟩ = some (.slice D L3 cs) := Y1
    refine wp_region_x (fun w' => w'.cell? ⟨w1.heap.size, 0, none⟩ = some (.int .i64 n) ∧ w'.cell? ⟨w1.heap.size, 1, none⟩ = some (.slice B L cq) ∧ w'.cell? ⟨w2.heap.size, 0, none⟩ = some (.int .i64 m) ∧ w'.cell? ⟨w2.heap.size, 1, none⟩ = some (.slice D L3 cs)) 3 (by kernel_rfl) ⟨yX0, yX1, yY0, yY1⟩ (fun hS0 => ?_)
    refine wpAnyX_take (i := 0) (oi := _) (v := ?_) rfl (by kernel_rfl) (by kernel_rfl) (by kernel_rfl) (by kernel_rfl) (fun _ _ _ h => h) (Or.inl ⟨by rfl, ?_⟩) hS0 ?_
    rotate_left 1
    · (intro w hSw; (try dsimp only at hSw); go_simp; (try with_reducible rfl))
    try simp only [Act.put, List.setIfInBounds_toArray, List.set_cons_zero, List.set_cons_succ]
    refine wpAnyX_take (i := 1) (oi := _) (v := ?_) rfl (by kernel_rfl) (by kernel_rfl) (by kernel_rfl) (by kernel_rfl) (fun _ _ _ h => h) (Or.inl ⟨by rfl, ?_⟩) hS0 ?_
    rotate_left 1
    · (intro w hSw; (try dsimp only at hSw); go_simp; (try with_reducible rfl))
    try simp only [Act.put, List.setIfInBounds_toArray, List.set_cons_zero, List.set_cons_succ]
    refine wpAnyX_one (i := 2) (o := _) rfl (by kernel_rfl) (fun K hK => ?_)
    go_simp
    refine hK.out _ _ (fun _ => ?_) (fun hS1 => ?_)
    · exact ⟨kst2 (by omega) (hS0.1), kst2 (by omega) (hS0.2.1), kst2 (by omega) (hS0.2.2.1), kst2 (by omega) (hS0.2.2.2)⟩
    clear hK K
    have hS1 := hS1 (by decide)
    try simp only [Act.put, List.setIfInBounds_toArray, List.set_cons_zero, List.set_cons_succ]
    refine wpAnyX_one (i := 3) (o := _) rfl (by kernel_rfl) (fun K hK => ?_)
    have PS := (Bb.far (Bb.far (Bb.drew XS5.out) (g := w.heap.size) (o := 0) (u := .int .i64 n) (by omega)) (g := w.heap.size) (o := 1) (u := .slice B L cq) (by omega))
    have ps0 := PS.c 0 rfl
    have ps1 := PS.c 1 rfl
    have psf := PS.f
    have psl := PS.lt
    go_simp
    refine hK.out _ _ (fun h => absurd rfl h) (fun _ => ?_)
    clear hK K
    try simp only [Act.put, List.setIfInBounds_toArray, List.set_cons_zero, List.set_cons_succ]
    refine wpAnyX_done (by kernel_rfl) ?_ _
    go_wp2_with (fail)
    refine bodyPost_ret (v := .tuple #[circuitV n B L cq, circuitV m D L3 cs]) (by first | (simp [results, Try.results16, go_sem, *]; done) | (simp (disch := (first | omega | (simp; done) | (simp; omega))) [results, Try.results16, go_sem, *]; done) | (simp only [results, Try.results16]; go_simp; done)) rfl (DcP.i HL.out HL3.out rfl (by omega) (by omega) PLB.out PLD.out ?_ ?_ ?_)
    · obtain ⟨h1, h2⟩ := P15.out
      (repeat' (first | exact h1 | (refine Rd.far ?_ (fun a ha => by have h9 := h2 a ha; dsimp only; omega) _)))
    · obtain ⟨h1, h2⟩ := P35.out
      (repeat' (first | exact h1 | (refine Rd.far ?_ (fun a ha => by have h9 := h2 a ha; dsimp only; omega) _)))
    · have hB9 := B5.out
      have hB9s := hB9.size
      (repeat' (first | (with_reducible exact Below.refl _ _) | (with_reducible assumption) | (with_reducible refine Below.alloc ?_ ?_ _) | (with_reducible refine Below.drew ?_) | (with_reducible refine bdN ?_ _) | (with_reducible refine Below.setCell ?_ ?_ _) | (with_reducible refine chn ?_ (by assumption) ?_) | omega | (simp; done) | (simp; omega)))

end Go.Proofs.Ytdbnjoeanoiifaa
