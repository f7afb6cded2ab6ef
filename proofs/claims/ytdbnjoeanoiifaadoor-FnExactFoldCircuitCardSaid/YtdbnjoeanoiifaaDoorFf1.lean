/- FoldCircuit: the program. -/
import Derived.Test.YtdbnjoeanoiifaaDoorFd6
import Derived.Test.YtdbnjoeanoiifaaDoorFb1
import Derived.Test.YtdbnjoeanoiifaaDoorFh
namespace Go.Proofs.YtdbnjoeanoiifaaDoor
open Go.RowKit
set_option linter.unusedVariables false
set_option linter.unusedSimpArgs false
attribute [local irreducible] World.setCell

theorem kad {P : Program} {a b : ByteArray} (h : a.size + b.size ≤ 100000) (w : World) : (Op.stringOp .add a b).run P w = .ok (.string (a ++ b)) w := run_string_add_sum w _ _ (by omega)
/-- what is known of a list that is not empty -/
theorem fold_step {l : List GateV} {b m N : Nat} (hb : best l = (b, m)) (hN : l.length = N) (h1 : 1 ≤ N) : 1 ≤ b ∧ b ≤ 8 ∧ 1 ≤ m ∧ m ≤ 99 ∧ b * m ≤ N ∧ (m = 1 → b = 1) ∧ b ≤ b * m := by
  have h := best_bd (l := l) (by omega)
  rw [hb] at h
  dsimp only at h
  obtain ⟨h1, h2, h3, h4, h5, h6⟩ := h
  refine ⟨h1, h2, h3, h4, by omega, h6, ?_⟩
  have := Nat.mul_le_mul (Nat.le_refl b) h3
  omega
theorem piece_2 {l : List GateV} {b m : Nat} (hb : best l = (b, m)) (h : 2 ≤ m) : piece l = (((tRep ++ dg2 m) ++ tOpen) ++ lns ⟨#[]⟩ (l.take b)) ++ tEnd := by unfold piece; rw [hb, if_pos h]
theorem piece_1 {l : List GateV} {b m : Nat} (hb : best l = (b, m)) (h : ¬ 2 ≤ m) : piece l = lns ⟨#[]⟩ (l.take b) := by unfold piece; rw [hb, if_neg h]
theorem rest_e {l : List GateV} {b m : Nat} (hb : best l = (b, m)) : rest l = l.drop (b * m) := by unfold rest; rw [hb]
theorem szs : tRep.size = 7 ∧ tOpen.size = 3 ∧ tEnd.size = 2 := ⟨rfl, rfl, rfl⟩
set_option maxRecDepth 100000 in
set_option maxHeartbeats 16000000 in
theorem foi_t {n : Nat} {A1 : Option Addr} {n1 c1 : Nat} {xs : List GateV} {X R : ByteArray} {t : Bool} {w : World} (hN : Nms w) (hn5 : n ≤ 5) (hA : Rd gateE w A1 xs) (hn : xs.length = n1) (hl : n1 ≤ 400) (hcc : n1 ≤ c1) (hok : okC (n : Int) n1 xs = true) (hg : ∀ (i : Nat) (g : GateV), xs[i]? = some g → gB 5 g = true) (hX : fld n1 (qln n) xs = X) (hR1 : 8000 < X.size → R = ⟨#[]⟩ ∧ t = false) (hR2 : ¬ 8000 < X.size → R = X ∧ t = true) :
    Calls Tryd.prog 24 #[circuitV (n : Int) A1 n1 c1] w fun ee w' => ee = .returned (.tuple #[.string R, .bool t]) ∧ Below w.heap.size w w' := by
  have hm : n1 ≤ maxLen := by unfold maxLen; omega
  have HA := lay hA
  have HN := lay hn
  have HO := lay hok
  have HG := lay hg
  have HM := lay hN
  have HX := lay hX
  have HR1 := lay hR1
  have HR2 := lay hR2
  clear hA hn hok hg hN hX hR1 hR2
  go_enter Tryd.func24, Tryd.ntmps24
  go_wp2_with (fail)
  refine (vci (xs := xs) HO.out ?_ HN.out hm).mono ?_
  · exact HA.out.mono (by (repeat' (first | (with_reducible exact Below.refl _ _) | (with_reducible assumption) | (with_reducible refine Below.alloc ?_ ?_ _) | (with_reducible refine Below.drew ?_) | (with_reducible refine bdN ?_ _) | (with_reducible refine Below.setCell ?_ ?_ _) | (with_reducible refine chn ?_ (by assumption) ?_) | omega | (simp; done) | (simp; omega))))
  rintro ee w1 ⟨rfl, hb1⟩
  have X1 := lay (Bb.mono (b := w.heap.size) (t := 46) (cs := #[.int .i64 (n : Int), .slice A1 n1 c1]) (Bb.new rfl) hb1)
  have hs1 := hb1.size
  simp only [World.size_alloc] at hs1
  have B1 := lay (chn ((Below.refl w.heap.size w).alloc (Nat.le_refl _) _) hb1 (by simp))
  clear hb1
  have c0 := X1.out.c 0 rfl
  have c1' := X1.out.c 1 rfl
  have lx := X1.out.lt
  go_wp2_with (fail)
  refine (qli (n := n) (by omega) _).mono ?_
  rintro ee w2 ⟨rfl, hb2⟩
  have X2 := lay (X1.out.mono hb2)
  have hs2 := hb2.size
  have B2 := lay (chn B1.out hb2 B1.out.size)
  clear hb2 c0 c1' lx X1 B1
  have c0 := X2.out.c 0 rfl
  have c1' := X2.out.c 1 rfl
  have lx := X2.out.lt
  go_wp2_with (fail)
  go_loopg [4, 5] n1 (fun k s4 s5 wr => ∃ (s : ByteArray) (l : List GateV) (N C : Nat) (B : Option Addr), s4 = .string s ∧ s5 = .slice B N C ∧ Hid (Rd gateE w B l) ∧ Hid (l.length = N) ∧ N ≤ C ∧ N ≤ k ∧ N ≤ 400 ∧ Hid (fld k s l = X) ∧ s.size + 23 * N ≤ 9209 ∧ Hid (∀ (i : Nat) (g : GateV), l[i]? = some g → gB 5 g = true) ∧ Below w.heap.size w wr)
  case atStart => exact ⟨qln n, xs, n1, c1, A1, rfl, rfl, HA, HN, hcc, Nat.le_refl _, hl, HX, by rw [qln_size]; omega, HG, B2.out⟩
  case round =>
    clear c0 c1' lx X2 B2 HA HN HX HG
    obtain ⟨s, l, N, C, B, rfl, rfl, HA, HN, hNC, hNk, hN4, HX, hsz, HG, hB⟩ := hrel
    have hBz := hB.size
    by_cases hN0 : N = 0
    · obtain rfl : l = [] := List.eq_nil_of_length_eq_zero (by rw [HN.out]; exact hN0)
      have HE : Hid (s = X) := by have h := HX.out; rw [fld_nil] at h; exact h
      have n0 : ¬ ((0 : Int) < (N : Int)) := by omega
      by_cases hX8 : 8000 < X.size
      · obtain ⟨rfl, rfl⟩ := HR1.out hX8
        have z8 : (8000 : Int) < (s.size : Int) := by rw [HE.out]; omega
        go_wp2_with (fail)
        refine bodyPost_ret (v := .tuple #[.string ⟨#[]⟩, .bool false]) (by first | (simp [results, Tryd.results24, go_sem, *]; done) | (simp (disch := (first | omega | (simp; done) | (simp; omega))) [results, Tryd.results24, go_sem, *]; done) | (simp only [results, Tryd.results24]; go_simp; done)) rfl ⟨rfl, hB⟩
      · obtain ⟨rfl, rfl⟩ := HR2.out hX8
        have z8 : ¬ ((8000 : Int) < (s.size : Int)) := by rw [HE.out]; omega
        go_wp2_with (fail)
        refine bodyPost_ret (v := .tuple #[.string s, .bool true]) (by first | (simp [results, Tryd.results24, go_sem, *]; done) | (simp (disch := (first | omega | (simp; done) | (simp; omega))) [results, Tryd.results24, go_sem, *]; done) | (simp only [results, Tryd.results24]; go_simp; done)) rfl ⟨by rw [HE.out], hB⟩
    · cases gk with
      | zero => omega
      | succ r =>
        have n0 : (0 : Int) < (N : Int) := by omega
        obtain ⟨⟨b, m⟩, hb⟩ : ∃ p, best l = p := ⟨_, rfl⟩
        obtain ⟨b1, b8, m1, m9, bm, bm1, bb⟩ := fold_step hb HN.out (by omega)
        have hlne : l ≠ [] := fun e => by have h := HN.out; rw [e] at h; exact hN0 (by simpa using h.symm)
        have hps := piece_size l
        rw [hb] at hps
        dsimp only at hps
        obtain ⟨P, hP⟩ : ∃ P : Nat, b * m = P := ⟨_, rfl⟩
        rw [hP] at bm bb
        have e1 := wrapMul hP (by omega)
        have HF : Hid (fld r (s ++ piece l) (l.drop P) = X) := by
          show _ = _
          rw [← HX.out, fld_go hlne, rest_e hb, hP]
        have HZ : Hid ((s ++ piece l).size + 23 * (N - P) ≤ 9209) := by
          show _ ≤ _
          rw [ByteArray.size_append]
          omega
        have HL : Hid ((l.take b).length = b) := by show _ = _; rw [List.length_take, HN.out]; omega
        have HTk := lay (Rd.hd HA.out HN.out hNC b)
        have HDp := lay (Rd.slc HA.out HN.out hNC P)
        have HG1 : Hid (∀ (i : Nat) (g : GateV), (l.take b)[i]? = some g → gB 5 g = true) := fun i g h => HG.out i g (by
          rw [List.getElem?_take] at h
          split at h
          · exact h
          · cases h)
        have HG2 : Hid (∀ (i : Nat) (g : GateV), (l.drop P)[i]? = some g → gB 5 g = true) := fun i g h => HG.out (P + i) g (by rw [List.getElem?_drop] at h; exact h)
        have HN2 : Hid ((l.drop P).length = N - P) := by show _ = _; rw [List.length_drop, HN.out]
        have k1 := fun w => ksh (A := B) (n := N) (show b ≤ C by omega) w
        have k2 := fun w => ksl (A := B) (c := C) bm w
        have hlz := lns_sz0 (l.take b)
        rw [HL.out] at hlz
        have hdz := dg2_size m
        obtain ⟨z1, z2, z3⟩ := szs
        have HBS := lay hb
        have HPS := lay hps
        clear hb hps hP HX HG
        go_wp2_with (fail)
        refine (best_i HBS.out (HA.out.mono hB) HN.out hN4 (by omega) hNC).mono ?_
        rintro ee w3 ⟨rfl, hb3⟩
        have hB3 := chn hB hb3 hBz
        have hB3z := hB3.size
        clear hb3
        go_wp2_with (fail)
        refine (gli (HM.out.below hB3) (HTk.out.mono hB3) HL.out (by omega) HG1.out).mono ?_
        rintro ee w4 ⟨rfl, hb4⟩
        have hB4 := chn hB3 hb4 hB3z
        have hB4z := hB4.size
        clear hb4
        obtain ⟨Y, hY⟩ : ∃ Y, lns ⟨#[]⟩ (l.take b) = Y := ⟨_, rfl⟩
        rw [hY] at hlz ⊢
        have HYY := lay hY
        clear hY
        by_cases hm2 : 2 ≤ m
        · have m2' : (2 : Int) ≤ (m : Int) := by omega
          have HPC : Hid (piece l = ((((tRep ++ dg2 m) ++ tOpen) ++ Y) ++ tEnd)) := by show _ = _; rw [piece_2 HBS.out hm2, HYY.out]
          have q1 := fun w => kad (P := Tryd.prog) (a := tRep) (b := dg2 m) (by omega) w
          have q2 := fun w => kad (P := Tryd.prog) (a := tRep ++ dg2 m) (b := tOpen) (by rw [ByteArray.size_append]; omega) w
          have q3 := fun w => kad (P := Tryd.prog) (a := (tRep ++ dg2 m) ++ tOpen) (b := Y) (by rw [ByteArray.size_append, ByteArray.size_append]; omega) w
          have q4 := fun w => kad (P := Tryd.prog) (a := ((tRep ++ dg2 m) ++ tOpen) ++ Y) (b := tEnd) (by rw [ByteArray.size_append, ByteArray.size_append, ByteArray.size_append]; omega) w
          have q5 := fun w => kad (P := Tryd.prog) (a := s) (b := piece l) (by have := HPS.out; omega) w
          rw [← HPC.out] at q4
          simp only [tRep, tOpen, tEnd] at q1 q2 q3 q4
          go_wp2_with (go_at_call 28; ((with_reducible refine (itoa2 m9 _).mono ?_); rintro ee w5 ⟨rfl, hb5⟩))
          have hB5 := chn hB4 hb5 hB4z
          go_roundg r
          case measure => omega
          case rel => exact ⟨s ++ piece l, l.drop P, N - P, C - P, _, rfl, rfl, HDp, HN2, by omega, by omega, by omega, HF, HZ.out, HG2, hB5⟩
        · have m2' : ¬ ((2 : Int) ≤ (m : Int)) := by omega
          have HPC : Hid (piece l = Y) := by show _ = _; rw [piece_1 HBS.out hm2, HYY.out]
          have q5 := fun w => kad (P := Tryd.prog) (a := s) (b := Y) (by omega) w
          rw [← HPC.out] at q5 ⊢
          go_wp2_with (fail)
          go_roundg r
          case measure => omega
          case rel => exact ⟨s ++ piece l, l.drop P, N - P, C - P, _, rfl, rfl, HDp, HN2, by omega, by omega, by omega, HF, HZ.out, HG2, hB4⟩
end Go.Proofs.YtdbnjoeanoiifaaDoor
