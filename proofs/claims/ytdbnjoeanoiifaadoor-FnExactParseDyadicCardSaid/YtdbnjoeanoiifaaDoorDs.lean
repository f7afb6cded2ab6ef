/- ParseDyadic: the model. -/
import Derived.Test.YtdbnjoeanoiifaaDoorPs1
import Derived.Test.YtdbnjoeanoiifaaDoorRr
import Derived.Test.YtdbnjoeanoiifaaDoorOneArg
import Derived.Test.YtdbnjoeanoiifaaDoorDyA
import Derived.Deep.RegionHeld3
import Derived.Deep.DeepCutAuto
namespace Go.Proofs.YtdbnjoeanoiifaaDoor
open Go.RowKit RM
set_option linter.unusedVariables false
set_option linter.unusedSimpArgs false
attribute [local irreducible] World.setCell

theorem rd2 {W : World} {A : Option Addr} {x0 x1 : ByteArray} (h : Rd strE W A [x0, x1]) : ∃ g o, A = some ⟨g, o, none⟩ ∧ W.cell? ⟨g, o, none⟩ = some (.string x0) ∧ W.cell? ⟨g, o + 1, none⟩ = some (.string x1) := by
  obtain ⟨g, o, rfl, h0⟩ := h 0 x0 rfl
  obtain ⟨g1, o1, e1, h1⟩ := h 1 x1 rfl
  cases e1
  exact ⟨g, o, rfl, h0 0 _ rfl, h1 0 _ rfl⟩
set_option maxRecDepth 100000 in
set_option maxHeartbeats 8000000 in
theorem ds_len {s : ByteArray} {w : World} {L : List ByteArray} (hs : s.size ≤ 1048576) (hL : spl s 47 = L) (hl : L.length ≠ 2) :
    Calls Tryd.prog 15 #[.string s] w fun ee w' => ee = .returned (dt 0 0 0 0 0 false) ∧ Below w.heap.size w w' := by
  have HL := lay hL
  obtain ⟨n, hn⟩ : ∃ n, L.length = n := ⟨_, rfl⟩
  have HN := lay hn
  rw [hn] at hl
  have hl4 : ¬ ((n : Int) = 2) := by omega
  clear hL hn
  go_enter Tryd.func15, Tryd.ntmps15
  go_wp2_with (fail)
  refine (split_s HL.out hs _).mono ?_
  rintro ee w1 ⟨A, cp, rfl, hR, hb⟩
  rw [HN.out]
  clear hR
  have HX := lay (Bb.mono (b := w.heap.size) (t := 35) (cs := #[.int .i64 0, .int .i64 0, .int .i64 0, .int .i64 0, .int .i64 0]) (Bb.new rfl) hb)
  have HB1 : Hid (Below w.heap.size w w1) := by show Below _ _ _; exact chn ((Below.refl _ _).alloc (Nat.le_refl _) _) hb (by simp)
  have hz1 := hb.size
  (try simp only [World.size_alloc] at hz1)
  clear hb
  have r0 := HX.out.c 0 rfl
  have r1 := HX.out.c 1 rfl
  have r2 := HX.out.c 2 rfl
  have r3 := HX.out.c 3 rfl
  have r4 := HX.out.c 4 rfl
  have rf := HX.out.f
  have rl := HX.out.lt
  go_wp2_with (fail)
  refine bodyPost_ret (v := dt 0 0 0 0 0 false) (by first | (simp [results, Tryd.results15, go_sem, *]; done) | (simp (disch := (first | omega | (simp; done) | (simp; omega))) [results, Tryd.results15, go_sem, *]; done) | (simp only [results, Tryd.results15]; go_simp; done)) rfl ⟨rfl, ?_⟩
  have HBo := HB1.out
  (repeat' (first | (with_reducible exact Below.refl _ _) | (with_reducible assumption) | (with_reducible refine Below.alloc ?_ ?_ _) | (with_reducible refine Below.drew ?_) | (with_reducible refine bdN ?_ _) | (with_reducible refine Below.setCell ?_ ?_ _) | (with_reducible refine chn ?_ (by assumption) ?_) | omega | (simp; done) | (simp; omega)))
set_option maxRecDepth 100000 in
set_option maxHeartbeats 8000000 in
theorem ds_f {s : ByteArray} {w : World} {u v : ByteArray} (hs : s.size ≤ 1048576) (hL : spl s 47 = [u, v]) {a b c d r : Int} (hP : ∀ W, Calls Tryd.prog 13 #[.string u] W fun e w' => e = .returned (rt a b c d false) ∧ Below W.heap.size W w') (hR : ∀ W, Calls Tryd.prog 40 #[.string v] W fun e w' => e = .returned (.int .i64 r) ∧ W = w') :
    Calls Tryd.prog 15 #[.string s] w fun ee w' => ee = .returned (dt 0 0 0 0 0 false) ∧ Below w.heap.size w w' := by
  have HL := lay hL
  have HP := lay hP
  have HR := lay hR
  clear hL hP hR
  go_enter Tryd.func15, Tryd.ntmps15
  go_wp2_with (fail)
  refine (split_s HL.out hs _).mono ?_
  rintro ee w1 ⟨A, cp, rfl, hRd, hb⟩
  obtain ⟨g, o, rfl, c0, c1⟩ := rd2 hRd
  have e0 : [u, v].length = 2 := rfl
  rw [e0]
  clear hRd
  have HX := lay (Bb.mono (b := w.heap.size) (t := 35) (cs := #[.int .i64 0, .int .i64 0, .int .i64 0, .int .i64 0, .int .i64 0]) (Bb.new rfl) hb)
  have HB1 : Hid (Below w.heap.size w w1) := by show Below _ _ _; exact chn ((Below.refl _ _).alloc (Nat.le_refl _) _) hb (by simp)
  have hz1 := hb.size
  (try simp only [World.size_alloc] at hz1)
  clear hb
  go_wp2_with (fail)
  refine (HP.out _).mono ?_
  rintro ee w2 ⟨rfl, hb⟩
  replace HX := lay (HX.out.mono hb)
  replace HB1 := lay (chn HB1.out hb HB1.out.size)
  replace c1 := kcl hb c1
  clear hb c0 HL
  go_wp2_with (fail)
  obtain ⟨w3, hw3⟩ : ∃ W, W = w2.alloc (.cells #[.int .i64 a, .int .i64 b, .int .i64 c, .int .i64 d] 25) := ⟨_, rfl⟩
  rw [← hw3]
  have RX : Hid (Bb w3 w2.heap.size 25 #[.int .i64 a, .int .i64 b, .int .i64 c, .int .i64 d]) := by show Bb _ _ _ _; rw [hw3]; exact Bb.new rfl
  replace HX : Hid (Bb w3 w.heap.size 35 #[.int .i64 0, .int .i64 0, .int .i64 0, .int .i64 0, .int .i64 0]) := by show Bb _ _ _ _; rw [hw3]; exact HX.out.alloc _
  have hz2 := HB1.out.size
  replace HB1 : Hid (Below w.heap.size w w3) := by show Below _ _ _; rw [hw3]; exact HB1.out.alloc (by omega) _
  replace c1 : w3.cell? ⟨g, o + 1, none⟩ = some (.string v) := by rw [hw3]; exact kclAl c1
  clear hw3
  have k0 := RX.out.c 0 rfl
  have k1 := RX.out.c 1 rfl
  have k2 := RX.out.c 2 rfl
  have k3 := RX.out.c 3 rfl
  go_cut [7] (fun s7 wx => s7 = .pointer (some ⟨w3.heap.size, 0, none⟩) ∧ Hid (Bb wx w3.heap.size 35 #[.int .i64 a, .int .i64 b, .int .i64 c, .int .i64 d, .int .i64 r]) ∧ Hid (Bb wx w.heap.size 35 #[.int .i64 0, .int .i64 0, .int .i64 0, .int .i64 0, .int .i64 0]) ∧ Hid (Below w.heap.size w wx))
  case first =>
    have y0 : w3.drew.cell? ⟨w2.heap.size, 0, none⟩ = some (.int .i64 a) := k0
    have y1 : w3.drew.cell? ⟨w2.heap.size, 1, none⟩ = some (.int .i64 b) := k1
    have y2 : w3.drew.cell? ⟨w2.heap.size, 2, none⟩ = some (.int .i64 c) := k2
    have y3 : w3.drew.cell? ⟨w2.heap.size, 3, none⟩ = some (.int .i64 d) := k3
    have y4 : w3.drew.cell? ⟨g, o + 1, none⟩ = some (.string v) := c1
    go_region_held3 (fun w' => w'.cell? ⟨w2.heap.size, 0, none⟩ = some (.int .i64 a) ∧ w'.cell? ⟨w2.heap.size, 1, none⟩ = some (.int .i64 b) ∧ w'.cell? ⟨w2.heap.size, 2, none⟩ = some (.int .i64 c) ∧ w'.cell? ⟨w2.heap.size, 3, none⟩ = some (.int .i64 d) ∧ w'.cell? ⟨g, o + 1, none⟩ = some (.string v)) (first | (with_reducible exact ⟨y0, y1, y2, y3, y4⟩) | (with_reducible exact ⟨k0, k1, k2, k3, c1⟩) | (go_split_ands; with_reducible exact ⟨by with_reducible assumption, by with_reducible assumption, by with_reducible assumption, by with_reducible assumption, by with_reducible assumption⟩) | (go_split_ands; with_reducible exact ⟨kclAl (by with_reducible assumption), kclAl (by with_reducible assumption), kclAl (by with_reducible assumption), kclAl (by with_reducible assumption), kclAl (by with_reducible assumption)⟩) | (go_split_ands; with_reducible exact ⟨kclAld (by with_reducible assumption), kclAld (by with_reducible assumption), kclAld (by with_reducible assumption), kclAld (by with_reducible assumption), kclAld (by with_reducible assumption)⟩)) (first | (go_at_call 40; ((with_reducible refine (HR.out _).mono ?_); rintro ee v9 ⟨rfl, rfl⟩)))
    all_goals (go_wp2_with fail; go_meet)
    all_goals refine ⟨rfl, ?_, ?_, ?_⟩
    all_goals first | (exact lay (Bb.mono (Bb.new rfl) ((Below.refl _ _).drew))) | (exact lay (Bb.mono (HX.out.alloc _) ((Below.refl _ _).drew))) | (exact lay (Bb.new rfl)) | (exact lay (HX.out.alloc _)) | (show Below _ _ _; have HBo := HB1.out; have hzz := HBo.size; (repeat' (first | (with_reducible exact Below.refl _ _) | (with_reducible assumption) | (with_reducible refine Below.alloc ?_ ?_ _) | (with_reducible refine Below.drew ?_) | (with_reducible refine bdN ?_ _) | (with_reducible refine Below.setCell ?_ ?_ _) | (with_reducible refine chn ?_ (by assumption) ?_) | omega | (simp; done) | (simp; omega))))
  case rest =>
    obtain ⟨w4, rfl⟩ : ∃ w4, w4 = wc := ⟨_, rfl⟩
    obtain ⟨rfl, D5, DX, HB2⟩ := hcut
    clear HX HB1 RX k0 k1 k2 k3 c1
    have q0 := D5.out.c 0 rfl
    have q1 := D5.out.c 1 rfl
    have q2 := D5.out.c 2 rfl
    have q3 := D5.out.c 3 rfl
    have q4 := D5.out.c 4 rfl
    have ql := D5.out.lt
    have r0 := DX.out.c 0 rfl
    have r1 := DX.out.c 1 rfl
    have r2 := DX.out.c 2 rfl
    have r3 := DX.out.c 3 rfl
    have r4 := DX.out.c 4 rfl
    have rf := DX.out.f
    have rl := DX.out.lt
    go_wp2_with (fail)
    refine bodyPost_ret (v := dt 0 0 0 0 0 false) (by first | (simp [results, Tryd.results15, go_sem, *]; done) | (simp (disch := (first | omega | (simp; done) | (simp; omega))) [results, Tryd.results15, go_sem, *]; done) | (simp only [results, Tryd.results15]; go_simp; done)) rfl ⟨rfl, ?_⟩
    have HBo := HB2.out
    (repeat' (first | (with_reducible exact Below.refl _ _) | (with_reducible assumption) | (with_reducible refine Below.alloc ?_ ?_ _) | (with_reducible refine Below.drew ?_) | (with_reducible refine bdN ?_ _) | (with_reducible refine Below.setCell ?_ ?_ _) | (with_reducible refine chn ?_ (by assumption) ?_) | omega | (simp; done) | (simp; omega)))
set_option maxRecDepth 100000 in
set_option maxHeartbeats 8000000 in
theorem ds_n {s : ByteArray} {w : World} {u v : ByteArray} (hs : s.size ≤ 1048576) (hL : spl s 47 = [u, v]) {a b c d r : Int} (hP : ∀ W, Calls Tryd.prog 13 #[.string u] W fun e w' => e = .returned (rt a b c d true) ∧ Below W.heap.size W w') (hR : ∀ W, Calls Tryd.prog 40 #[.string v] W fun e w' => e = .returned (.int .i64 r) ∧ W = w') (hG : ∀ W, Calls Tryd.prog 41 #[dy a b c d r] W fun e w' => e = .returned (.bool false) ∧ Below W.heap.size W w') :
    Calls Tryd.prog 15 #[.string s] w fun ee w' => ee = .returned (dt 0 0 0 0 0 false) ∧ Below w.heap.size w w' := by
  have HL := lay hL
  have HP := lay hP
  have HR := lay hR
  have HG := lay hG
  clear hG
  clear hL hP hR
  go_enter Tryd.func15, Tryd.ntmps15
  go_wp2_with (fail)
  refine (split_s HL.out hs _).mono ?_
  rintro ee w1 ⟨A, cp, rfl, hRd, hb⟩
  obtain ⟨g, o, rfl, c0, c1⟩ := rd2 hRd
  have e0 : [u, v].length = 2 := rfl
  rw [e0]
  clear hRd
  have HX := lay (Bb.mono (b := w.heap.size) (t := 35) (cs := #[.int .i64 0, .int .i64 0, .int .i64 0, .int .i64 0, .int .i64 0]) (Bb.new rfl) hb)
  have HB1 : Hid (Below w.heap.size w w1) := by show Below _ _ _; exact chn ((Below.refl _ _).alloc (Nat.le_refl _) _) hb (by simp)
  have hz1 := hb.size
  (try simp only [World.size_alloc] at hz1)
  clear hb
  go_wp2_with (fail)
  refine (HP.out _).mono ?_
  rintro ee w2 ⟨rfl, hb⟩
  replace HX := lay (HX.out.mono hb)
  replace HB1 := lay (chn HB1.out hb HB1.out.size)
  replace c1 := kcl hb c1
  clear hb c0 HL
  go_wp2_with (fail)
  obtain ⟨w3, hw3⟩ : ∃ W, W = w2.alloc (.cells #[.int .i64 a, .int .i64 b, .int .i64 c, .int .i64 d] 25) := ⟨_, rfl⟩
  rw [← hw3]
  have RX : Hid (Bb w3 w2.heap.size 25 #[.int .i64 a, .int .i64 b, .int .i64 c, .int .i64 d]) := by show Bb _ _ _ _; rw [hw3]; exact Bb.new rfl
  replace HX : Hid (Bb w3 w.heap.size 35 #[.int .i64 0, .int .i64 0, .int .i64 0, .int .i64 0, .int .i64 0]) := by show Bb _ _ _ _; rw [hw3]; exact HX.out.alloc _
  have hz2 := HB1.out.size
  replace HB1 : Hid (Below w.heap.size w w3) := by show Below _ _ _; rw [hw3]; exact HB1.out.alloc (by omega) _
  replace c1 : w3.cell? ⟨g, o + 1, none⟩ = some (.string v) := by rw [hw3]; exact kclAl c1
  clear hw3
  have k0 := RX.out.c 0 rfl
  have k1 := RX.out.c 1 rfl
  have k2 := RX.out.c 2 rfl
  have k3 := RX.out.c 3 rfl
  go_cut [7] (fun s7 wx => s7 = .pointer (some ⟨w3.heap.size, 0, none⟩) ∧ Hid (Bb wx w3.heap.size 35 #[.int .i64 a, .int .i64 b, .int .i64 c, .int .i64 d, .int .i64 r]) ∧ Hid (Bb wx w.heap.size 35 #[.int .i64 0, .int .i64 0, .int .i64 0, .int .i64 0, .int .i64 0]) ∧ Hid (Below w.heap.size w wx))
  case first =>
    have y0 : w3.drew.cell? ⟨w2.heap.size, 0, none⟩ = some (.int .i64 a) := k0
    have y1 : w3.drew.cell? ⟨w2.heap.size, 1, none⟩ = some (.int .i64 b) := k1
    have y2 : w3.drew.cell? ⟨w2.heap.size, 2, none⟩ = some (.int .i64 c) := k2
    have y3 : w3.drew.cell? ⟨w2.heap.size, 3, none⟩ = some (.int .i64 d) := k3
    have y4 : w3.drew.cell? ⟨g, o + 1, none⟩ = some (.string v) := c1
    go_region_held3 (fun w' => w'.cell? ⟨w2.heap.size, 0, none⟩ = some (.int .i64 a) ∧ w'.cell? ⟨w2.heap.size, 1, none⟩ = some (.int .i64 b) ∧ w'.cell? ⟨w2.heap.size, 2, none⟩ = some (.int .i64 c) ∧ w'.cell? ⟨w2.heap.size, 3, none⟩ = some (.int .i64 d) ∧ w'.cell? ⟨g, o + 1, none⟩ = some (.string v)) (first | (with_reducible exact ⟨y0, y1, y2, y3, y4⟩) | (with_reducible exact ⟨k0, k1, k2, k3, c1⟩) | (go_split_ands; with_reducible exact ⟨by with_reducible assumption, by with_reducible assumption, by with_reducible assumption, by with_reducible assumption, by with_reducible assumption⟩) | (go_split_ands; with_reducible exact ⟨kclAl (by with_reducible assumption), kclAl (by with_reducible assumption), kclAl (by with_reducible assumption), kclAl (by with_reducible assumption), kclAl (by with_reducible assumption)⟩) | (go_split_ands; with_reducible exact ⟨kclAld (by with_reducible assumption), kclAld (by with_reducible assumption), kclAld (by with_reducible assumption), kclAld (by with_reducible assumption), kclAld (by with_reducible assumption)⟩)) (first | (go_at_call 40; ((with_reducible refine (HR.out _).mono ?_); rintro ee v9 ⟨rfl, rfl⟩)))
    all_goals (go_wp2_with fail; go_meet)
    all_goals refine ⟨rfl, ?_, ?_, ?_⟩
    all_goals first | (exact lay (Bb.mono (Bb.new rfl) ((Below.refl _ _).drew))) | (exact lay (Bb.mono (HX.out.alloc _) ((Below.refl _ _).drew))) | (exact lay (Bb.new rfl)) | (exact lay (HX.out.alloc _)) | (show Below _ _ _; have HBo := HB1.out; have hzz := HBo.size; (repeat' (first | (with_reducible exact Below.refl _ _) | (with_reducible assumption) | (with_reducible refine Below.alloc ?_ ?_ _) | (with_reducible refine Below.drew ?_) | (with_reducible refine bdN ?_ _) | (with_reducible refine Below.setCell ?_ ?_ _) | (with_reducible refine chn ?_ (by assumption) ?_) | omega | (simp; done) | (simp; omega))))
  case rest =>
    obtain ⟨w4, rfl⟩ : ∃ w4, w4 = wc := ⟨_, rfl⟩
    obtain ⟨rfl, D5, DX, HB2⟩ := hcut
    clear HX HB1 RX k0 k1 k2 k3 c1
    have q0 := D5.out.c 0 rfl
    have q1 := D5.out.c 1 rfl
    have q2 := D5.out.c 2 rfl
    have q3 := D5.out.c 3 rfl
    have q4 := D5.out.c 4 rfl
    have ql := D5.out.lt
    have r0 := DX.out.c 0 rfl
    have r1 := DX.out.c 1 rfl
    have r2 := DX.out.c 2 rfl
    have r3 := DX.out.c 3 rfl
    have r4 := DX.out.c 4 rfl
    have rf := DX.out.f
    have rl := DX.out.lt
    go_wp2_with (fail)
    refine (HG.out _).mono ?_
    rintro ee w5 ⟨rfl, hb⟩
    replace D5 := lay (D5.out.mono hb)
    replace DX := lay (DX.out.mono hb)
    replace HB2 := lay (chn HB2.out hb HB2.out.size)
    clear hb q0 q1 q2 q3 q4 ql r0 r1 r2 r3 r4 rf rl
    have q0 := D5.out.c 0 rfl
    have q1 := D5.out.c 1 rfl
    have q2 := D5.out.c 2 rfl
    have q3 := D5.out.c 3 rfl
    have q4 := D5.out.c 4 rfl
    have ql := D5.out.lt
    have r0 := DX.out.c 0 rfl
    have r1 := DX.out.c 1 rfl
    have r2 := DX.out.c 2 rfl
    have r3 := DX.out.c 3 rfl
    have r4 := DX.out.c 4 rfl
    have rf := DX.out.f
    have rl := DX.out.lt
    go_wp2_with (fail)
    refine bodyPost_ret (v := dt 0 0 0 0 0 false) (by first | (simp [results, Tryd.results15, go_sem, *]; done) | (simp (disch := (first | omega | (simp; done) | (simp; omega))) [results, Tryd.results15, go_sem, *]; done) | (simp only [results, Tryd.results15]; go_simp; done)) rfl ⟨rfl, ?_⟩
    have HBo := HB2.out
    (repeat' (first | (with_reducible exact Below.refl _ _) | (with_reducible assumption) | (with_reducible refine Below.alloc ?_ ?_ _) | (with_reducible refine Below.drew ?_) | (with_reducible refine bdN ?_ _) | (with_reducible refine Below.setCell ?_ ?_ _) | (with_reducible refine chn ?_ (by assumption) ?_) | omega | (simp; done) | (simp; omega)))
set_option maxRecDepth 100000 in
set_option maxHeartbeats 8000000 in
theorem ds_t {s : ByteArray} {w : World} {u v : ByteArray} (hs : s.size ≤ 1048576) (hL : spl s 47 = [u, v]) {a b c d r : Int} (hP : ∀ W, Calls Tryd.prog 13 #[.string u] W fun e w' => e = .returned (rt a b c d true) ∧ Below W.heap.size W w') (hR : ∀ W, Calls Tryd.prog 40 #[.string v] W fun e w' => e = .returned (.int .i64 r) ∧ W = w') (hG : ∀ W, Calls Tryd.prog 41 #[dy a b c d r] W fun e w' => e = .returned (.bool true) ∧ Below W.heap.size W w') :
    Calls Tryd.prog 15 #[.string s] w fun ee w' => ee = .returned (dt a b c d r true) ∧ Below w.heap.size w w' := by
  have HL := lay hL
  have HP := lay hP
  have HR := lay hR
  have HG := lay hG
  clear hG
  clear hL hP hR
  go_enter Tryd.func15, Tryd.ntmps15
  go_wp2_with (fail)
  refine (split_s HL.out hs _).mono ?_
  rintro ee w1 ⟨A, cp, rfl, hRd, hb⟩
  obtain ⟨g, o, rfl, c0, c1⟩ := rd2 hRd
  have e0 : [u, v].length = 2 := rfl
  rw [e0]
  clear hRd
  have HX := lay (Bb.mono (b := w.heap.size) (t := 35) (cs := #[.int .i64 0, .int .i64 0, .int .i64 0, .int .i64 0, .int .i64 0]) (Bb.new rfl) hb)
  have HB1 : Hid (Below w.heap.size w w1) := by show Below _ _ _; exact chn ((Below.refl _ _).alloc (Nat.le_refl _) _) hb (by simp)
  have hz1 := hb.size
  (try simp only [World.size_alloc] at hz1)
  clear hb
  go_wp2_with (fail)
  refine (HP.out _).mono ?_
  rintro ee w2 ⟨rfl, hb⟩
  replace HX := lay (HX.out.mono hb)
  replace HB1 := lay (chn HB1.out hb HB1.out.size)
  replace c1 := kcl hb c1
  clear hb c0 HL
  go_wp2_with (fail)
  obtain ⟨w3, hw3⟩ : ∃ W, W = w2.alloc (.cells #[.int .i64 a, .int .i64 b, .int .i64 c, .int .i64 d] 25) := ⟨_, rfl⟩
  rw [← hw3]
  have RX : Hid (Bb w3 w2.heap.size 25 #[.int .i64 a, .int .i64 b, .int .i64 c, .int .i64 d]) := by show Bb _ _ _ _; rw [hw3]; exact Bb.new rfl
  replace HX : Hid (Bb w3 w.heap.size 35 #[.int .i64 0, .int .i64 0, .int .i64 0, .int .i64 0, .int .i64 0]) := by show Bb _ _ _ _; rw [hw3]; exact HX.out.alloc _
  have hz2 := HB1.out.size
  replace HB1 : Hid (Below w.heap.size w w3) := by show Below _ _ _; rw [hw3]; exact HB1.out.alloc (by omega) _
  replace c1 : w3.cell? ⟨g, o + 1, none⟩ = some (.string v) := by rw [hw3]; exact kclAl c1
  clear hw3
  have k0 := RX.out.c 0 rfl
  have k1 := RX.out.c 1 rfl
  have k2 := RX.out.c 2 rfl
  have k3 := RX.out.c 3 rfl
  go_cut [7] (fun s7 wx => s7 = .pointer (some ⟨w3.heap.size, 0, none⟩) ∧ Hid (Bb wx w3.heap.size 35 #[.int .i64 a, .int .i64 b, .int .i64 c, .int .i64 d, .int .i64 r]) ∧ Hid (Bb wx w.heap.size 35 #[.int .i64 0, .int .i64 0, .int .i64 0, .int .i64 0, .int .i64 0]) ∧ Hid (Below w.heap.size w wx))
  case first =>
    have y0 : w3.drew.cell? ⟨w2.heap.size, 0, none⟩ = some (.int .i64 a) := k0
    have y1 : w3.drew.cell? ⟨w2.heap.size, 1, none⟩ = some (.int .i64 b) := k1
    have y2 : w3.drew.cell? ⟨w2.heap.size, 2, none⟩ = some (.int .i64 c) := k2
    have y3 : w3.drew.cell? ⟨w2.heap.size, 3, none⟩ = some (.int .i64 d) := k3
    have y4 : w3.drew.cell? ⟨g, o + 1, none⟩ = some (.string v) := c1
    go_region_held3 (fun w' => w'.cell? ⟨w2.heap.size, 0, none⟩ = some (.int .i64 a) ∧ w'.cell? ⟨w2.heap.size, 1, none⟩ = some (.int .i64 b) ∧ w'.cell? ⟨w2.heap.size, 2, none⟩ = some (.int .i64 c) ∧ w'.cell? ⟨w2.heap.size, 3, none⟩ = some (.int .i64 d) ∧ w'.cell? ⟨g, o + 1, none⟩ = some (.string v)) (first | (with_reducible exact ⟨y0, y1, y2, y3, y4⟩) | (with_reducible exact ⟨k0, k1, k2, k3, c1⟩) | (go_split_ands; with_reducible exact ⟨by with_reducible assumption, by with_reducible assumption, by with_reducible assumption, by with_reducible assumption, by with_reducible assumption⟩) | (go_split_ands; with_reducible exact ⟨kclAl (by with_reducible assumption), kclAl (by with_reducible assumption), kclAl (by with_reducible assumption), kclAl (by with_reducible assumption), kclAl (by with_reducible assumption)⟩) | (go_split_ands; with_reducible exact ⟨kclAld (by with_reducible assumption), kclAld (by with_reducible assumption), kclAld (by with_reducible assumption), kclAld (by with_reducible assumption), kclAld (by with_reducible assumption)⟩)) (first | (go_at_call 40; ((with_reducible refine (HR.out _).mono ?_); rintro ee v9 ⟨rfl, rfl⟩)))
    all_goals (go_wp2_with fail; go_meet)
    all_goals refine ⟨rfl, ?_, ?_, ?_⟩
    all_goals first | (exact lay (Bb.mono (Bb.new rfl) ((Below.refl _ _).drew))) | (exact lay (Bb.mono (HX.out.alloc _) ((Below.refl _ _).drew))) | (exact lay (Bb.new rfl)) | (exact lay (HX.out.alloc _)) | (show Below _ _ _; have HBo := HB1.out; have hzz := HBo.size; (repeat' (first | (with_reducible exact Below.refl _ _) | (with_reducible assumption) | (with_reducible refine Below.alloc ?_ ?_ _) | (with_reducible refine Below.drew ?_) | (with_reducible refine bdN ?_ _) | (with_reducible refine Below.setCell ?_ ?_ _) | (with_reducible refine chn ?_ (by assumption) ?_) | omega | (simp; done) | (simp; omega))))
  case rest =>
    obtain ⟨w4, rfl⟩ : ∃ w4, w4 = wc := ⟨_, rfl⟩
    obtain ⟨rfl, D5, DX, HB2⟩ := hcut
    clear HX HB1 RX k0 k1 k2 k3 c1
    have q0 := D5.out.c 0 rfl
    have q1 := D5.out.c 1 rfl
    have q2 := D5.out.c 2 rfl
    have q3 := D5.out.c 3 rfl
    have q4 := D5.out.c 4 rfl
    have ql := D5.out.lt
    have r0 := DX.out.c 0 rfl
    have r1 := DX.out.c 1 rfl
    have r2 := DX.out.c 2 rfl
    have r3 := DX.out.c 3 rfl
    have r4 := DX.out.c 4 rfl
    have rf := DX.out.f
    have rl := DX.out.lt
    go_wp2_with (fail)
    refine (HG.out _).mono ?_
    rintro ee w5 ⟨rfl, hb⟩
    replace D5 := lay (D5.out.mono hb)
    replace DX := lay (DX.out.mono hb)
    replace HB2 := lay (chn HB2.out hb HB2.out.size)
    clear hb q0 q1 q2 q3 q4 ql r0 r1 r2 r3 r4 rf rl
    have q0 := D5.out.c 0 rfl
    have q1 := D5.out.c 1 rfl
    have q2 := D5.out.c 2 rfl
    have q3 := D5.out.c 3 rfl
    have q4 := D5.out.c 4 rfl
    have ql := D5.out.lt
    have r0 := DX.out.c 0 rfl
    have r1 := DX.out.c 1 rfl
    have r2 := DX.out.c 2 rfl
    have r3 := DX.out.c 3 rfl
    have r4 := DX.out.c 4 rfl
    have rf := DX.out.f
    have rl := DX.out.lt
    go_wp2_with (fail)
    refine bodyPost_ret (v := dt a b c d r true) (by first | (simp [results, Tryd.results15, go_sem, *]; done) | (simp (disch := (first | omega | (simp; done) | (simp; omega))) [results, Tryd.results15, go_sem, *]; done) | (simp only [results, Tryd.results15]; go_simp; done)) rfl ⟨rfl, ?_⟩
    have HBo := HB2.out
    (repeat' (first | (with_reducible exact Below.refl _ _) | (with_reducible assumption) | (with_reducible refine Below.alloc ?_ ?_ _) | (with_reducible refine Below.drew ?_) | (with_reducible refine bdN ?_ _) | (with_reducible refine Below.setCell ?_ ?_ _) | (with_reducible refine chn ?_ (by assumption) ?_) | omega | (simp; done) | (simp; omega)))
end Go.Proofs.YtdbnjoeanoiifaaDoor
