/- ParseRing: the model. -/
import Derived.Test.YtdbnjoeanoiifaaDoorPs2
import Derived.Test.YtdbnjoeanoiifaaDoorPm
import Derived.Test.YtdbnjoeanoiifaaDoorProd
import Derived.Test.YtdbnjoeanoiifaaDoorInt
import Derived.Deep.RegionHeld3
import Derived.Deep.DeepCutAuto
namespace Go.Proofs.YtdbnjoeanoiifaaDoor
open Go.RowKit RM
set_option linter.unusedVariables false
set_option linter.unusedSimpArgs false
attribute [local irreducible] World.setCell

theorem rd4 {W : World} {A : Option Addr} {x0 x1 x2 x3 : ByteArray} (h : Rd strE W A [x0, x1, x2, x3]) : ∃ g o, A = some ⟨g, o, none⟩ ∧ W.cell? ⟨g, o, none⟩ = some (.string x0) ∧ W.cell? ⟨g, o + 1, none⟩ = some (.string x1) ∧ W.cell? ⟨g, o + 2, none⟩ = some (.string x2) ∧ W.cell? ⟨g, o + 3, none⟩ = some (.string x3) := by
  obtain ⟨g, o, rfl, h0⟩ := h 0 x0 rfl
  obtain ⟨g1, o1, e1, h1⟩ := h 1 x1 rfl
  obtain ⟨g2, o2, e2, h2⟩ := h 2 x2 rfl
  obtain ⟨g3, o3, e3, h3⟩ := h 3 x3 rfl
  cases e1; cases e2; cases e3
  exact ⟨g, o, rfl, h0 0 _ rfl, h1 0 _ rfl, h2 0 _ rfl, h3 0 _ rfl⟩
theorem tx_bx {x y : ByteArray} (h : x.data = y.data) : x = y := by
  cases x; cases y; cases h; rfl
set_option maxRecDepth 100000 in
set_option maxHeartbeats 8000000 in
theorem ps_len {s : ByteArray} {w : World} {L : List ByteArray} (hs : s.size ≤ 1048576) (hL : spl s 32 = L) (hl : L.length ≠ 4) :
    Calls Tryd.prog 13 #[.string s] w fun ee w' => ee = .returned (rt 0 0 0 0 false) ∧ Below w.heap.size w w' := by
  have HL := lay hL
  obtain ⟨n, hn⟩ : ∃ n, L.length = n := ⟨_, rfl⟩
  have HN := lay hn
  rw [hn] at hl
  have hl4 : ¬ ((n : Int) = 4) := by omega
  clear hL hn
  go_enter Tryd.func13, Tryd.ntmps13
  go_wp2_with (fail)
  refine (split_s HL.out hs _).mono ?_
  rintro ee w1 ⟨A, cp, rfl, hR, hb⟩
  rw [HN.out]
  clear hR
  have HX := lay (Bb.mono (b := w.heap.size) (t := 25) (cs := #[.int .i64 0, .int .i64 0, .int .i64 0, .int .i64 0]) (Bb.new rfl) hb)
  have HB1 : Hid (Below w.heap.size w w1) := by show Below _ _ _; exact chn ((Below.refl _ _).alloc (Nat.le_refl _) _) hb (by simp)
  have hz1 := hb.size
  (try simp only [World.size_alloc] at hz1)
  clear hb
  have r0 := HX.out.c 0 rfl
  have r1 := HX.out.c 1 rfl
  have r2 := HX.out.c 2 rfl
  have r3 := HX.out.c 3 rfl
  have rf := HX.out.f
  have rl := HX.out.lt
  go_wp2_with (fail)
  refine bodyPost_ret (v := rt 0 0 0 0 false) (by first | (simp [results, Tryd.results13, go_sem, *]; done) | (simp (disch := (first | omega | (simp; done) | (simp; omega))) [results, Tryd.results13, go_sem, *]; done) | (simp only [results, Tryd.results13]; go_simp; done)) rfl ⟨rfl, ?_⟩
  have HBo := HB1.out
  (repeat' (first | (with_reducible exact Below.refl _ _) | (with_reducible assumption) | (with_reducible refine Below.alloc ?_ ?_ _) | (with_reducible refine Below.drew ?_) | (with_reducible refine bdN ?_ _) | (with_reducible refine Below.setCell ?_ ?_ _) | (with_reducible refine chn ?_ (by assumption) ?_) | omega | (simp; done) | (simp; omega)))
set_option maxRecDepth 100000 in
set_option maxHeartbeats 8000000 in
theorem ps_f {s : ByteArray} {w : World} {x0 x1 x2 x3 : ByteArray} (hs : s.size ≤ 1048576) (hL : spl s 32 = [x0, x1, x2, x3]) (z0 : x0.size ≤ 1048576) (z1 : x1.size ≤ 1048576) (z2 : x2.size ≤ 1048576) (z3 : x3.size ≤ 1048576) {v0 v1 v2 v3 : Int} (a0 : sgV x0 = v0) (a1 : sgV x1 = v1) (a2 : sgV x2 = v2) (a3 : sgV x3 = v3) (hV : vr v0 v1 v2 v3 = false) :
    Calls Tryd.prog 13 #[.string s] w fun ee w' => ee = .returned (rt 0 0 0 0 false) ∧ Below w.heap.size w w' := by
  have HL := lay hL
  have HV := lay hV
  have h0 := lay a0
  have h1 := lay a1
  have h2 := lay a2
  have h3 := lay a3
  clear hL hV a0 a1 a2 a3
  go_enter Tryd.func13, Tryd.ntmps13
  go_wp2_with (fail)
  refine (split_s HL.out hs _).mono ?_
  rintro ee w1 ⟨A, cp, rfl, hR, hb⟩
  obtain ⟨g, o, rfl, c0, c1, c2, c3⟩ := rd4 hR
  have e0 : [x0, x1, x2, x3].length = 4 := rfl
  rw [e0]
  clear hR
  have HX := lay (Bb.mono (b := w.heap.size) (t := 25) (cs := #[.int .i64 0, .int .i64 0, .int .i64 0, .int .i64 0]) (Bb.new rfl) hb)
  have HB1 : Hid (Below w.heap.size w w1) := by show Below _ _ _; exact chn ((Below.refl _ _).alloc (Nat.le_refl _) _) hb (by simp)
  have hz1 := hb.size
  (try simp only [World.size_alloc] at hz1)
  clear hb
  go_wp2_with (fail)
  go_cut [5] (fun s5 wx => s5 = .pointer (some ⟨w1.heap.size, 0, none⟩) ∧ Hid (Bb wx w1.heap.size 25 #[.int .i64 v0, .int .i64 v1, .int .i64 v2, .int .i64 v3]) ∧ Hid (Bb wx w.heap.size 25 #[.int .i64 0, .int .i64 0, .int .i64 0, .int .i64 0]) ∧ Hid (Below w.heap.size w wx))
  case first =>
    have y0 : w1.drew.cell? ⟨g, o, none⟩ = some (.string x0) := c0
    have y1 : w1.drew.cell? ⟨g, o + 1, none⟩ = some (.string x1) := c1
    have y2 : w1.drew.cell? ⟨g, o + 2, none⟩ = some (.string x2) := c2
    have y3 : w1.drew.cell? ⟨g, o + 3, none⟩ = some (.string x3) := c3
    go_region_held3 (fun w' => w'.cell? ⟨g, o, none⟩ = some (.string x0) ∧ w'.cell? ⟨g, o + 1, none⟩ = some (.string x1) ∧ w'.cell? ⟨g, o + 2, none⟩ = some (.string x2) ∧ w'.cell? ⟨g, o + 3, none⟩ = some (.string x3)) (first | (with_reducible exact ⟨y0, y1, y2, y3⟩) | (with_reducible exact ⟨c0, c1, c2, c3⟩) | (go_split_ands; with_reducible exact ⟨by with_reducible assumption, by with_reducible assumption, by with_reducible assumption, by with_reducible assumption⟩) | (go_split_ands; with_reducible exact ⟨kclAl (by with_reducible assumption), kclAl (by with_reducible assumption), kclAl (by with_reducible assumption), kclAl (by with_reducible assumption)⟩) | (go_split_ands; with_reducible exact ⟨kclAld (by with_reducible assumption), kclAld (by with_reducible assumption), kclAld (by with_reducible assumption), kclAld (by with_reducible assumption)⟩)) (first | (go_at_call 38; ((with_reducible refine (sgn_s h0.out z0 _).mono ?_); rintro ee v9 ⟨rfl, rfl⟩)) | (go_at_call 38; ((with_reducible refine (sgn_s h1.out z1 _).mono ?_); rintro ee v9 ⟨rfl, rfl⟩)) | (go_at_call 38; ((with_reducible refine (sgn_s h2.out z2 _).mono ?_); rintro ee v9 ⟨rfl, rfl⟩)) | (go_at_call 38; ((with_reducible refine (sgn_s h3.out z3 _).mono ?_); rintro ee v9 ⟨rfl, rfl⟩)))
    all_goals (go_wp2_with fail; go_meet)
    all_goals refine ⟨rfl, ?_, ?_, ?_⟩
    all_goals first | (exact lay (Bb.mono (Bb.new rfl) ((Below.refl _ _).drew))) | (exact lay (Bb.mono (HX.out.alloc _) ((Below.refl _ _).drew))) | (exact lay (Bb.new rfl)) | (exact lay (HX.out.alloc _)) | (show Below _ _ _; have HBo := HB1.out; (repeat' (first | (with_reducible exact Below.refl _ _) | (with_reducible assumption) | (with_reducible refine Below.alloc ?_ ?_ _) | (with_reducible refine Below.drew ?_) | (with_reducible refine bdN ?_ _) | (with_reducible refine Below.setCell ?_ ?_ _) | (with_reducible refine chn ?_ (by assumption) ?_) | omega | (simp; done) | (simp; omega))))
  case rest =>
    obtain ⟨w2, rfl⟩ : ∃ w2, w2 = wc := ⟨_, rfl⟩
    obtain ⟨rfl, D5, DX, HB2⟩ := hcut
    clear HX HB1 c0 c1 c2 c3 HL
    have q0 := D5.out.c 0 rfl
    have q1 := D5.out.c 1 rfl
    have q2 := D5.out.c 2 rfl
    have q3 := D5.out.c 3 rfl
    have ql := D5.out.lt
    go_wp2_with (fail)
    refine (lg_f _ _ _ _ _ HV.out).mono ?_
    rintro ee w3 ⟨rfl, hb⟩
    replace D5 := lay (D5.out.mono hb)
    replace DX := lay (DX.out.mono hb)
    replace HB2 := lay (chn HB2.out hb HB2.out.size)
    clear hb q0 q1 q2 q3 ql
    have q0 := D5.out.c 0 rfl
    have q1 := D5.out.c 1 rfl
    have q2 := D5.out.c 2 rfl
    have q3 := D5.out.c 3 rfl
    have ql := D5.out.lt
    have r0 := DX.out.c 0 rfl
    have r1 := DX.out.c 1 rfl
    have r2 := DX.out.c 2 rfl
    have r3 := DX.out.c 3 rfl
    have rf := DX.out.f
    have rl := DX.out.lt
    go_wp2_with (fail)
    refine bodyPost_ret (v := rt 0 0 0 0 false) (by first | (simp [results, Tryd.results13, go_sem, *]; done) | (simp (disch := (first | omega | (simp; done) | (simp; omega))) [results, Tryd.results13, go_sem, *]; done) | (simp only [results, Tryd.results13]; go_simp; done)) rfl ⟨rfl, ?_⟩
    have HBo := HB2.out
    (repeat' (first | (with_reducible exact Below.refl _ _) | (with_reducible assumption) | (with_reducible refine Below.alloc ?_ ?_ _) | (with_reducible refine Below.drew ?_) | (with_reducible refine bdN ?_ _) | (with_reducible refine Below.setCell ?_ ?_ _) | (with_reducible refine chn ?_ (by assumption) ?_) | omega | (simp; done) | (simp; omega)))
set_option maxRecDepth 100000 in
set_option maxHeartbeats 8000000 in
theorem ps_n {s : ByteArray} {w : World} {x0 x1 x2 x3 : ByteArray} (hs : s.size ≤ 1048576) (hL : spl s 32 = [x0, x1, x2, x3]) (z0 : x0.size ≤ 1048576) (z1 : x1.size ≤ 1048576) (z2 : x2.size ≤ 1048576) (z3 : x3.size ≤ 1048576) {v0 v1 v2 v3 : Int} (a0 : sgV x0 = v0) (a1 : sgV x1 = v1) (a2 : sgV x2 = v2) (a3 : sgV x3 = v3) (hV : vr v0 v1 v2 v3 = true) (hTx : ftx v0 v1 v2 v3 ≠ s) :
    Calls Tryd.prog 13 #[.string s] w fun ee w' => ee = .returned (rt 0 0 0 0 false) ∧ Below w.heap.size w w' := by
  have HL := lay hL
  have HV := lay hV
  have h0 := lay a0
  have h1 := lay a1
  have h2 := lay a2
  have h3 := lay a3
  have HT := lay hTx
  clear hTx hL hV a0 a1 a2 a3
  go_enter Tryd.func13, Tryd.ntmps13
  go_wp2_with (fail)
  refine (split_s HL.out hs _).mono ?_
  rintro ee w1 ⟨A, cp, rfl, hR, hb⟩
  obtain ⟨g, o, rfl, c0, c1, c2, c3⟩ := rd4 hR
  have e0 : [x0, x1, x2, x3].length = 4 := rfl
  rw [e0]
  clear hR
  have HX := lay (Bb.mono (b := w.heap.size) (t := 25) (cs := #[.int .i64 0, .int .i64 0, .int .i64 0, .int .i64 0]) (Bb.new rfl) hb)
  have HB1 : Hid (Below w.heap.size w w1) := by show Below _ _ _; exact chn ((Below.refl _ _).alloc (Nat.le_refl _) _) hb (by simp)
  have hz1 := hb.size
  (try simp only [World.size_alloc] at hz1)
  clear hb
  go_wp2_with (fail)
  go_cut [5] (fun s5 wx => s5 = .pointer (some ⟨w1.heap.size, 0, none⟩) ∧ Hid (Bb wx w1.heap.size 25 #[.int .i64 v0, .int .i64 v1, .int .i64 v2, .int .i64 v3]) ∧ Hid (Bb wx w.heap.size 25 #[.int .i64 0, .int .i64 0, .int .i64 0, .int .i64 0]) ∧ Hid (Below w.heap.size w wx))
  case first =>
    have y0 : w1.drew.cell? ⟨g, o, none⟩ = some (.string x0) := c0
    have y1 : w1.drew.cell? ⟨g, o + 1, none⟩ = some (.string x1) := c1
    have y2 : w1.drew.cell? ⟨g, o + 2, none⟩ = some (.string x2) := c2
    have y3 : w1.drew.cell? ⟨g, o + 3, none⟩ = some (.string x3) := c3
    go_region_held3 (fun w' => w'.cell? ⟨g, o, none⟩ = some (.string x0) ∧ w'.cell? ⟨g, o + 1, none⟩ = some (.string x1) ∧ w'.cell? ⟨g, o + 2, none⟩ = some (.string x2) ∧ w'.cell? ⟨g, o + 3, none⟩ = some (.string x3)) (first | (with_reducible exact ⟨y0, y1, y2, y3⟩) | (with_reducible exact ⟨c0, c1, c2, c3⟩) | (go_split_ands; with_reducible exact ⟨by with_reducible assumption, by with_reducible assumption, by with_reducible assumption, by with_reducible assumption⟩) | (go_split_ands; with_reducible exact ⟨kclAl (by with_reducible assumption), kclAl (by with_reducible assumption), kclAl (by with_reducible assumption), kclAl (by with_reducible assumption)⟩) | (go_split_ands; with_reducible exact ⟨kclAld (by with_reducible assumption), kclAld (by with_reducible assumption), kclAld (by with_reducible assumption), kclAld (by with_reducible assumption)⟩)) (first | (go_at_call 38; ((with_reducible refine (sgn_s h0.out z0 _).mono ?_); rintro ee v9 ⟨rfl, rfl⟩)) | (go_at_call 38; ((with_reducible refine (sgn_s h1.out z1 _).mono ?_); rintro ee v9 ⟨rfl, rfl⟩)) | (go_at_call 38; ((with_reducible refine (sgn_s h2.out z2 _).mono ?_); rintro ee v9 ⟨rfl, rfl⟩)) | (go_at_call 38; ((with_reducible refine (sgn_s h3.out z3 _).mono ?_); rintro ee v9 ⟨rfl, rfl⟩)))
    all_goals (go_wp2_with fail; go_meet)
    all_goals refine ⟨rfl, ?_, ?_, ?_⟩
    all_goals first | (exact lay (Bb.mono (Bb.new rfl) ((Below.refl _ _).drew))) | (exact lay (Bb.mono (HX.out.alloc _) ((Below.refl _ _).drew))) | (exact lay (Bb.new rfl)) | (exact lay (HX.out.alloc _)) | (show Below _ _ _; have HBo := HB1.out; (repeat' (first | (with_reducible exact Below.refl _ _) | (with_reducible assumption) | (with_reducible refine Below.alloc ?_ ?_ _) | (with_reducible refine Below.drew ?_) | (with_reducible refine bdN ?_ _) | (with_reducible refine Below.setCell ?_ ?_ _) | (with_reducible refine chn ?_ (by assumption) ?_) | omega | (simp; done) | (simp; omega))))
  case rest =>
    obtain ⟨w2, rfl⟩ : ∃ w2, w2 = wc := ⟨_, rfl⟩
    obtain ⟨rfl, D5, DX, HB2⟩ := hcut
    clear HX HB1 c0 c1 c2 c3 HL
    have q0 := D5.out.c 0 rfl
    have q1 := D5.out.c 1 rfl
    have q2 := D5.out.c 2 rfl
    have q3 := D5.out.c 3 rfl
    have ql := D5.out.lt
    go_wp2_with (fail)
    refine (lg_t _ _ _ _ _ HV.out).mono ?_
    rintro ee w3 ⟨rfl, hb⟩
    replace D5 := lay (D5.out.mono hb)
    replace DX := lay (DX.out.mono hb)
    replace HB2 := lay (chn HB2.out hb HB2.out.size)
    clear hb q0 q1 q2 q3 ql
    have q0 := D5.out.c 0 rfl
    have q1 := D5.out.c 1 rfl
    have q2 := D5.out.c 2 rfl
    have q3 := D5.out.c 3 rfl
    have ql := D5.out.lt
    have r0 := DX.out.c 0 rfl
    have r1 := DX.out.c 1 rfl
    have r2 := DX.out.c 2 rfl
    have r3 := DX.out.c 3 rfl
    have rf := DX.out.f
    have rl := DX.out.lt
    go_wp2_with (fail)
    have htx : Calls Tryd.prog 33 #[rg v0 v1 v2 v3] w3 fun e w' => e = .returned (.string (ftx v0 v1 v2 v3)) ∧ Below w3.heap.size w3 w' := text v0 v1 v2 v3 _ HV.out
    obtain ⟨T, hT⟩ : ∃ T, ftx v0 v1 v2 v3 = T := ⟨_, rfl⟩
    have hne : T ≠ s := by rw [← hT]; exact HT.out
    have n1 : (T.toList == s.toList) = false := by
      rw [ByteArray.toList_eq, ByteArray.toList_eq]
      exact beq_eq_false_iff_ne.2 (fun h => hne (tx_bx (Array.toList_inj.1 h)))
    rw [hT] at htx
    refine htx.mono ?_
    clear htx
    rintro ee w4 ⟨rfl, hb⟩
    replace D5 := lay (D5.out.mono hb)
    replace DX := lay (DX.out.mono hb)
    replace HB2 := lay (chn HB2.out hb HB2.out.size)
    clear hb q0 q1 q2 q3 ql r0 r1 r2 r3 rf rl
    have q0 := D5.out.c 0 rfl
    have q1 := D5.out.c 1 rfl
    have q2 := D5.out.c 2 rfl
    have q3 := D5.out.c 3 rfl
    have ql := D5.out.lt
    have r0 := DX.out.c 0 rfl
    have r1 := DX.out.c 1 rfl
    have r2 := DX.out.c 2 rfl
    have r3 := DX.out.c 3 rfl
    have rf := DX.out.f
    have rl := DX.out.lt
    go_wp2_with (fail)
    refine bodyPost_ret (v := rt 0 0 0 0 false) (by first | (simp [results, Tryd.results13, go_sem, *]; done) | (simp (disch := (first | omega | (simp; done) | (simp; omega))) [results, Tryd.results13, go_sem, *]; done) | (simp only [results, Tryd.results13]; go_simp; done)) rfl ⟨rfl, ?_⟩
    have HBo := HB2.out
    (repeat' (first | (with_reducible exact Below.refl _ _) | (with_reducible assumption) | (with_reducible refine Below.alloc ?_ ?_ _) | (with_reducible refine Below.drew ?_) | (with_reducible refine bdN ?_ _) | (with_reducible refine Below.setCell ?_ ?_ _) | (with_reducible refine chn ?_ (by assumption) ?_) | omega | (simp; done) | (simp; omega)))
set_option maxRecDepth 100000 in
set_option maxHeartbeats 8000000 in
theorem ps_t {s : ByteArray} {w : World} {x0 x1 x2 x3 : ByteArray} (hs : s.size ≤ 1048576) (hL : spl s 32 = [x0, x1, x2, x3]) (z0 : x0.size ≤ 1048576) (z1 : x1.size ≤ 1048576) (z2 : x2.size ≤ 1048576) (z3 : x3.size ≤ 1048576) {v0 v1 v2 v3 : Int} (a0 : sgV x0 = v0) (a1 : sgV x1 = v1) (a2 : sgV x2 = v2) (a3 : sgV x3 = v3) (hV : vr v0 v1 v2 v3 = true) (hTx : ftx v0 v1 v2 v3 = s) :
    Calls Tryd.prog 13 #[.string s] w fun ee w' => ee = .returned (rt v0 v1 v2 v3 true) ∧ Below w.heap.size w w' := by
  have HL := lay hL
  have HV := lay hV
  have h0 := lay a0
  have h1 := lay a1
  have h2 := lay a2
  have h3 := lay a3
  have HT := lay hTx
  clear hTx hL hV a0 a1 a2 a3
  go_enter Tryd.func13, Tryd.ntmps13
  go_wp2_with (fail)
  refine (split_s HL.out hs _).mono ?_
  rintro ee w1 ⟨A, cp, rfl, hR, hb⟩
  obtain ⟨g, o, rfl, c0, c1, c2, c3⟩ := rd4 hR
  have e0 : [x0, x1, x2, x3].length = 4 := rfl
  rw [e0]
  clear hR
  have HX := lay (Bb.mono (b := w.heap.size) (t := 25) (cs := #[.int .i64 0, .int .i64 0, .int .i64 0, .int .i64 0]) (Bb.new rfl) hb)
  have HB1 : Hid (Below w.heap.size w w1) := by show Below _ _ _; exact chn ((Below.refl _ _).alloc (Nat.le_refl _) _) hb (by simp)
  have hz1 := hb.size
  (try simp only [World.size_alloc] at hz1)
  clear hb
  go_wp2_with (fail)
  go_cut [5] (fun s5 wx => s5 = .pointer (some ⟨w1.heap.size, 0, none⟩) ∧ Hid (Bb wx w1.heap.size 25 #[.int .i64 v0, .int .i64 v1, .int .i64 v2, .int .i64 v3]) ∧ Hid (Bb wx w.heap.size 25 #[.int .i64 0, .int .i64 0, .int .i64 0, .int .i64 0]) ∧ Hid (Below w.heap.size w wx))
  case first =>
    have y0 : w1.drew.cell? ⟨g, o, none⟩ = some (.string x0) := c0
    have y1 : w1.drew.cell? ⟨g, o + 1, none⟩ = some (.string x1) := c1
    have y2 : w1.drew.cell? ⟨g, o + 2, none⟩ = some (.string x2) := c2
    have y3 : w1.drew.cell? ⟨g, o + 3, none⟩ = some (.string x3) := c3
    go_region_held3 (fun w' => w'.cell? ⟨g, o, none⟩ = some (.string x0) ∧ w'.cell? ⟨g, o + 1, none⟩ = some (.string x1) ∧ w'.cell? ⟨g, o + 2, none⟩ = some (.string x2) ∧ w'.cell? ⟨g, o + 3, none⟩ = some (.string x3)) (first | (with_reducible exact ⟨y0, y1, y2, y3⟩) | (with_reducible exact ⟨c0, c1, c2, c3⟩) | (go_split_ands; with_reducible exact ⟨by with_reducible assumption, by with_reducible assumption, by with_reducible assumption, by with_reducible assumption⟩) | (go_split_ands; with_reducible exact ⟨kclAl (by with_reducible assumption), kclAl (by with_reducible assumption), kclAl (by with_reducible assumption), kclAl (by with_reducible assumption)⟩) | (go_split_ands; with_reducible exact ⟨kclAld (by with_reducible assumption), kclAld (by with_reducible assumption), kclAld (by with_reducible assumption), kclAld (by with_reducible assumption)⟩)) (first | (go_at_call 38; ((with_reducible refine (sgn_s h0.out z0 _).mono ?_); rintro ee v9 ⟨rfl, rfl⟩)) | (go_at_call 38; ((with_reducible refine (sgn_s h1.out z1 _).mono ?_); rintro ee v9 ⟨rfl, rfl⟩)) | (go_at_call 38; ((with_reducible refine (sgn_s h2.out z2 _).mono ?_); rintro ee v9 ⟨rfl, rfl⟩)) | (go_at_call 38; ((with_reducible refine (sgn_s h3.out z3 _).mono ?_); rintro ee v9 ⟨rfl, rfl⟩)))
    all_goals (go_wp2_with fail; go_meet)
    all_goals refine ⟨rfl, ?_, ?_, ?_⟩
    all_goals first | (exact lay (Bb.mono (Bb.new rfl) ((Below.refl _ _).drew))) | (exact lay (Bb.mono (HX.out.alloc _) ((Below.refl _ _).drew))) | (exact lay (Bb.new rfl)) | (exact lay (HX.out.alloc _)) | (show Below _ _ _; have HBo := HB1.out; (repeat' (first | (with_reducible exact Below.refl _ _) | (with_reducible assumption) | (with_reducible refine Below.alloc ?_ ?_ _) | (with_reducible refine Below.drew ?_) | (with_reducible refine bdN ?_ _) | (with_reducible refine Below.setCell ?_ ?_ _) | (with_reducible refine chn ?_ (by assumption) ?_) | omega | (simp; done) | (simp; omega))))
  case rest =>
    obtain ⟨w2, rfl⟩ : ∃ w2, w2 = wc := ⟨_, rfl⟩
    obtain ⟨rfl, D5, DX, HB2⟩ := hcut
    clear HX HB1 c0 c1 c2 c3 HL
    have q0 := D5.out.c 0 rfl
    have q1 := D5.out.c 1 rfl
    have q2 := D5.out.c 2 rfl
    have q3 := D5.out.c 3 rfl
    have ql := D5.out.lt
    go_wp2_with (fail)
    refine (lg_t _ _ _ _ _ HV.out).mono ?_
    rintro ee w3 ⟨rfl, hb⟩
    replace D5 := lay (D5.out.mono hb)
    replace DX := lay (DX.out.mono hb)
    replace HB2 := lay (chn HB2.out hb HB2.out.size)
    clear hb q0 q1 q2 q3 ql
    have q0 := D5.out.c 0 rfl
    have q1 := D5.out.c 1 rfl
    have q2 := D5.out.c 2 rfl
    have q3 := D5.out.c 3 rfl
    have ql := D5.out.lt
    have r0 := DX.out.c 0 rfl
    have r1 := DX.out.c 1 rfl
    have r2 := DX.out.c 2 rfl
    have r3 := DX.out.c 3 rfl
    have rf := DX.out.f
    have rl := DX.out.lt
    go_wp2_with (fail)
    have htx : Calls Tryd.prog 33 #[rg v0 v1 v2 v3] w3 fun e w' => e = .returned (.string (ftx v0 v1 v2 v3)) ∧ Below w3.heap.size w3 w' := text v0 v1 v2 v3 _ HV.out
    rw [HT.out] at htx
    refine htx.mono ?_
    clear htx
    rintro ee w4 ⟨rfl, hb⟩
    replace D5 := lay (D5.out.mono hb)
    replace DX := lay (DX.out.mono hb)
    replace HB2 := lay (chn HB2.out hb HB2.out.size)
    clear hb q0 q1 q2 q3 ql r0 r1 r2 r3 rf rl
    have q0 := D5.out.c 0 rfl
    have q1 := D5.out.c 1 rfl
    have q2 := D5.out.c 2 rfl
    have q3 := D5.out.c 3 rfl
    have ql := D5.out.lt
    have r0 := DX.out.c 0 rfl
    have r1 := DX.out.c 1 rfl
    have r2 := DX.out.c 2 rfl
    have r3 := DX.out.c 3 rfl
    have rf := DX.out.f
    have rl := DX.out.lt
    go_wp2_with (fail)
    refine bodyPost_ret (v := rt v0 v1 v2 v3 true) (by first | (simp [results, Tryd.results13, go_sem, *]; done) | (simp (disch := (first | omega | (simp; done) | (simp; omega))) [results, Tryd.results13, go_sem, *]; done) | (simp only [results, Tryd.results13]; go_simp; done)) rfl ⟨rfl, ?_⟩
    have HBo := HB2.out
    (repeat' (first | (with_reducible exact Below.refl _ _) | (with_reducible assumption) | (with_reducible refine Below.alloc ?_ ?_ _) | (with_reducible refine Below.drew ?_) | (with_reducible refine bdN ?_ _) | (with_reducible refine Below.setCell ?_ ?_ _) | (with_reducible refine chn ?_ (by assumption) ?_) | omega | (simp; done) | (simp; omega)))
end Go.Proofs.YtdbnjoeanoiifaaDoor
