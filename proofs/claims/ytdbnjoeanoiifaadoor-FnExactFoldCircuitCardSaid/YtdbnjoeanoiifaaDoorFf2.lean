/- FoldCircuit: the model. -/
import Derived.Test.YtdbnjoeanoiifaaDoorFf1
namespace Go.Proofs.YtdbnjoeanoiifaaDoor
open Go.RowKit
set_option linter.unusedVariables false
set_option linter.unusedSimpArgs false
attribute [local irreducible] World.setCell

/-- the model's test and the program's -/
theorem spr_test {x y x' y' T j : Nat} (h : spr (x, y) = (x', y')) (h1 : y = 1 → x = 1) (hj : 1 ≤ j) (hT : 2 ≤ T) : x' * y' < T * j ↔ x * y < j * T := by
  unfold spr at h
  dsimp only at h
  rw [Nat.mul_comm T j]
  split at h
  · rename_i e
    cases h
    rw [e, h1 e]
    have := Nat.mul_le_mul hj hT
    omega
  · cases h; exact Iff.rfl
theorem spr_bd {x y x' y' : Nat} (h : spr (x, y) = (x', y')) (hx : x ≤ 8) (hy : y ≤ 99) : x' ≤ 8 ∧ y' ≤ 99 := by
  unfold spr at h
  split at h <;> cases h <;> omega
theorem fold_end {s Hd : ByteArray} {ys : List GateV} : lns (s ++ Hd) ys ++ tEnd = s ++ ((Hd ++ lns ⟨#[]⟩ ys) ++ tEnd) := by
  rw [lns_head ys (s ++ Hd)]
  simp only [ByteArray.append_assoc]
theorem lns_one (x : GateV) : lns ⟨#[]⟩ [x] = gtx x ++ nl := by
  show (⟨#[]⟩ : ByteArray) ++ (gtx x ++ nl) = _
  exact ByteArray.empty_append
theorem spr_self {x y : Nat} (h : 2 ≤ y) : spr (x, y) = (x, y) := by unfold spr; rw [if_neg (by dsimp only; omega)]
theorem spr_one {x y : Nat} (h : y = 1) : spr (x, y) = (0, 0) := by unfold spr; rw [if_pos h]
set_option maxRecDepth 100000 in
set_option maxHeartbeats 16000000 in
theorem fos_t {n : Nat} {A1 : Option Addr} {n1 c1 : Nat} {xs : List GateV} {X R : ByteArray} {t : Bool} {w : World} (hn5 : n ≤ 5) (hA : Rd gateE w A1 xs) (hn : xs.length = n1) (hl : n1 ≤ 400) (hcc : n1 ≤ c1) (hok : okC (n : Int) n1 xs = true) (hg : ∀ (i : Nat) (g : GateV), xs[i]? = some g → gB 5 g = true) (hX : fld n1 (qln n) xs = X) (hR1 : 8000 < X.size → R = ⟨#[]⟩ ∧ t = false) (hR2 : ¬ 8000 < X.size → R = X ∧ t = true) :
    Calls Tryd.prog 23 #[circuitV (n : Int) A1 n1 c1] w fun ee w' => ee = .returned (.tuple #[.string R, .bool t]) ∧ Below w.heap.size w w' := by
  have hm : n1 ≤ maxLen := by unfold maxLen; omega
  have HA := lay hA
  have HN := lay hn
  have HO := lay hok
  have HG := lay hg
  have HX := lay hX
  have HR1 := lay hR1
  have HR2 := lay hR2
  have kk1 := fun w => kq1 (P := Tryd.prog) n w
  have kk2 := fun w => kq2 (P := Tryd.prog) n w
  clear hA hn hok hg hX hR1 hR2
  go_enter Tryd.func23, Tryd.ntmps23
  go_wp2_with (fail)
  refine (vcs (xs := xs) HO.out ?_ HN.out hm).mono ?_
  · exact HA.out.mono (by (repeat' (first | (with_reducible exact Below.refl _ _) | (with_reducible assumption) | (with_reducible refine Below.alloc ?_ ?_ _) | (with_reducible refine Below.drew ?_) | (with_reducible refine bdN ?_ _) | (with_reducible refine Below.setCell ?_ ?_ _) | (with_reducible refine chn ?_ (by assumption) ?_) | omega | (simp; done) | (simp; omega))))
  rintro ee w1 ⟨rfl, hb1⟩
  have X1 := lay (Bb.mono (b := w.heap.size) (t := 46) (cs := #[.int .i64 (n : Int), .slice A1 n1 c1]) (Bb.new rfl) hb1)
  have hs1 := hb1.size
  simp only [World.size_alloc] at hs1
  have B1 := lay (chn ((Below.refl w.heap.size w).alloc (Nat.le_refl _) _) hb1 (by simp))
  clear hb1
  have c0 := X1.out.c 0 rfl
  have c1' := X1.out.c 1 rfl
  have lx := X1.out.lt
  go_wp2_with (fail)
  refine (nums (q := n) (by omega) _).mono ?_
  rintro ee w2 ⟨rfl, hb2⟩
  have X2 := lay (X1.out.mono hb2)
  have hs2 := hb2.size
  have B2 := lay (chn B1.out hb2 B1.out.size)
  clear hb2 c0 c1' lx X1 B1
  have c0 := X2.out.c 0 rfl
  have c1' := X2.out.c 1 rfl
  have lx := X2.out.lt
  go_wp2_with (fail)
  go_loopg [4, 5] n1 (fun k s4 s5 wr => ∃ (s : ByteArray) (l : List GateV) (N C : Nat) (B : Option Addr), s4 = .string s ∧ s5 = .slice B N C ∧ Hid (Rd gateE w B l) ∧ Hid (l.length = N) ∧ N ≤ C ∧ N ≤ k ∧ N ≤ 400 ∧ Hid (fld k s l = X) ∧ s.size + 23 * N ≤ 9209 ∧ Hid (∀ (i : Nat) (g : GateV), l[i]? = some g → gB 5 g = true) ∧ Below w.heap.size w wr)
  case atStart => exact ⟨qln n, xs, n1, c1, A1, rfl, rfl, HA, HN, hcc, Nat.le_refl _, hl, HX, by rw [qln_size]; omega, HG, B2.out⟩
  case round =>
    clear c0 c1' lx X2 B2 HA HN HX HG kk1 kk2
    obtain ⟨s, l, N, C, B, rfl, rfl, HA, HN, hNC, hNk, hN4, HX, hsz, HG, hB⟩ := hrel
    have hBz := hB.size
    by_cases hN0 : N = 0
    · obtain rfl : l = [] := List.eq_nil_of_length_eq_zero (by rw [HN.out]; exact hN0)
      have HE : Hid (s = X) := by have h := HX.out; rw [fld_nil] at h; exact h
      have n0 : ¬ ((0 : Int) < (N : Int)) := by omega
      by_cases hX8 : 8000 < X.size
      · obtain ⟨rfl, rfl⟩ := HR1.out hX8
        have z8 : (8000 : Int) < (s.size : Int) := by rw [HE.out]; omega
        go_wp2_with (fail)
        refine bodyPost_ret (v := .tuple #[.string ⟨#[]⟩, .bool false]) (by first | (simp [results, Tryd.results23, go_sem, *]; done) | (simp (disch := (first | omega | (simp; done) | (simp; omega))) [results, Tryd.results23, go_sem, *]; done) | (simp only [results, Tryd.results23]; go_simp; done)) rfl ⟨rfl, hB⟩
      · obtain ⟨rfl, rfl⟩ := HR2.out hX8
        have z8 : ¬ ((8000 : Int) < (s.size : Int)) := by rw [HE.out]; omega
        go_wp2_with (fail)
        refine bodyPost_ret (v := .tuple #[.string s, .bool true]) (by first | (simp [results, Tryd.results23, go_sem, *]; done) | (simp (disch := (first | omega | (simp; done) | (simp; omega))) [results, Tryd.results23, go_sem, *]; done) | (simp only [results, Tryd.results23]; go_simp; done)) rfl ⟨by rw [HE.out], hB⟩
    · cases gk with
      | zero => omega
      | succ r =>
        have n0 : (0 : Int) < (N : Int) := by omega
        have n0n : 0 < N := by omega
        obtain ⟨⟨b, m⟩, hb⟩ : ∃ p, best l = p := ⟨_, rfl⟩
        obtain ⟨b1, b8, m1, m9, bm, bm1, bb⟩ := fold_step hb HN.out (by omega)
        have hlne : l ≠ [] := fun e => by have h := HN.out; rw [e] at h; exact hN0 (by simpa using h.symm)
        have hps := piece_size l
        rw [hb] at hps
        dsimp only at hps
        obtain ⟨P, hP⟩ : ∃ P : Nat, b * m = P := ⟨_, rfl⟩
        rw [hP] at bm bb
        have e1 := wrapMul hP (by omega)
        have HF : Hid (fld r (s ++ piece l) (l.drop P) = X) := by
          show _ = _
          rw [← HX.out, fld_go hlne, rest_e hb, hP]
        have HZ : Hid ((s ++ piece l).size + 23 * (N - P) ≤ 9209) := by
          show _ ≤ _
          rw [ByteArray.size_append]
          omega
        have HL : Hid ((l.take b).length = b) := by show _ = _; rw [List.length_take, HN.out]; omega
        have HDp := lay (Rd.slc HA.out HN.out hNC P)
        have HG1 : Hid (∀ (i : Nat) (g : GateV), (l.take b)[i]? = some g → gB 5 g = true) := fun i g h => HG.out i g (by
          rw [List.getElem?_take] at h
          split at h
          · exact h
          · cases h)
        have HG2 : Hid (∀ (i : Nat) (g : GateV), (l.drop P)[i]? = some g → gB 5 g = true) := fun i g h => HG.out (P + i) g (by rw [List.getElem?_drop] at h; exact h)
        have HN2 : Hid ((l.drop P).length = N - P) := by show _ = _; rw [List.length_drop, HN.out]
        obtain ⟨D, hD⟩ : ∃ D, sla B 0 C 3 = D := ⟨_, rfl⟩
        have k1 := fun w => ksh (A := B) (n := N) (show b ≤ C by omega) w
        rw [hD] at k1
        have HTk : Hid (Rd gateE w D (l.take b)) := by show Rd _ _ _ _; rw [← hD]; exact Rd.hd HA.out HN.out hNC b
        clear hD
        have k2 := fun w => ksl (A := B) (c := C) bm w
        have hdz := dg2_size m
        obtain ⟨z1, z2, z3⟩ := szs
        obtain ⟨K, hK⟩ : ∃ K, min 8 N = K := ⟨_, rfl⟩
        have hK8 : K ≤ 8 := by omega
        have hKn : K ≤ N := by omega
        have hKK : K = 8 ∨ K = N := by omega
        have HBT : Hid (bst l K = (b, m)) := by show _ = _; rw [← hb, ← hK, ← HN.out]; rfl
        have HBS := lay hb
        have HPS := lay hps
        have HP := lay hP
        clear hb hps hP HX hK
        go_wp2_with (fail)
        go_loopg [6, 7, 8] K (fun k s6 s7 s8 wr => ∃ i x y x' y' : Nat, i + k = K ∧ s6 = .int .i64 (x' : Int) ∧ s7 = .int .i64 (y' : Int) ∧ s8 = .int .i64 ((i + 1 : Nat) : Int) ∧ Hid (bst l i = (x, y)) ∧ Hid (spr (x, y) = (x', y')) ∧ Below w.heap.size w wr)
        case atStart => exact ⟨0, 1, 1, 0, 0, by omega, rfl, rfl, rfl, lay rfl, lay rfl, by (repeat' (first | (with_reducible exact Below.refl _ _) | (with_reducible assumption) | (with_reducible refine Below.alloc ?_ ?_ _) | (with_reducible refine Below.drew ?_) | (with_reducible refine bdN ?_ _) | (with_reducible refine Below.setCell ?_ ?_ _) | (with_reducible refine chn ?_ (by assumption) ?_) | omega | (simp; done) | (simp; omega)))⟩
        case round =>
          clear hB hBz
          obtain ⟨i, x, y, x', y', hi, rfl, rfl, rfl, HI, HS1, hB⟩ := hrel
          have hBz := hB.size
          have hbd := bst_bd l i (by rw [HN.out]; omega) (by omega) (by rw [HN.out]; omega)
          rw [HI.out] at hbd
          dsimp only at hbd
          obtain ⟨x1, x8, y1, y9, xy, xy1⟩ := hbd
          obtain ⟨x'8, y'9⟩ := spr_bd HS1.out x8 y9
          have HXY := lay xy1
          obtain ⟨j, hj⟩ : ∃ j, i + 1 = j := ⟨_, rfl⟩
          rw [hj]
          clear xy xy1
          cases gk with
          | zero =>
            have hik : i = K := by omega
            have hE : Hid (spr (b, m) = (x', y')) := by
              have h := HBT.out
              rw [← hik, HI.out] at h
              cases h
              exact HS1.out
            have HEND : Hid (¬ ((j : Int) ≤ 8) ∨ ((j : Int) ≤ 8 ∧ ¬ ((j : Int) ≤ (N : Int)))) := by show _ ∨ _; omega
            by_cases hm2 : 2 ≤ m
            · have hE2 : Hid (x' = b ∧ y' = m) := by
                have h := hE.out
                rw [spr_self hm2] at h
                cases h
                exact ⟨rfl, rfl⟩
              obtain ⟨rfl, rfl⟩ := hE2.out
              have x0 : ¬ ((x' : Int) = 0) := by omega
              obtain ⟨Hd, hHd⟩ : ∃ Hd, (tRep ++ dg2 y') ++ tOpen = Hd := ⟨_, rfl⟩
              have hHz : Hd.size ≤ 12 := by rw [← hHd, ByteArray.size_append, ByteArray.size_append]; omega
              have q1 := fun w => kad (P := Tryd.prog) (a := tRep) (b := dg2 y') (by omega) w
              have q2 := fun w => kad (P := Tryd.prog) (a := tRep ++ dg2 y') (b := tOpen) (by rw [ByteArray.size_append]; omega) w
              rw [hHd] at q2
              have q3 := fun w => kad (P := Tryd.prog) (a := s) (b := Hd) (by omega) w
              simp only [tRep, tOpen] at q1 q2
              have HPC : Hid (lns (s ++ Hd) (l.take x') ++ tEnd = s ++ piece l) := by show _ = _; rw [fold_end, piece_2 HBS.out hm2, hHd]
              clear hHd
              rcases HEND.out with hj8 | ⟨hj8, hjN⟩
              all_goals
                go_wp2_with (fail)
                refine (num2 m9 _).mono ?_
                rintro ee w3 ⟨rfl, hb3⟩
                have hB3 := chn hB hb3 hBz
                have hB3z := hB3.size
                clear hb3
                go_wp2_with (fail)
                go_loopg [4, 72] x' (fun k s4 s72 wr => ∃ i : Nat, i + k = x' ∧ s4 = .string (lns (s ++ Hd) ((l.take x').take i)) ∧ s72 = .int .i64 (i : Int) ∧ Below w.heap.size w wr)
                case atStart => exact ⟨0, by omega, by rw [List.take_zero]; rfl, rfl, hB3⟩
                case round =>
                  clear hB hBz hB3 hB3z
                  obtain ⟨i, hi3, rfl, rfl, hB⟩ := hrel
                  have hBz := hB.size
                  cases gk with
                  | zero =>
                    obtain rfl : i = x' := by omega
                    have eT : (l.take i).take i = l.take i := List.take_of_length_le (by rw [HL.out]; exact Nat.le_refl _)
                    have hlz := lns_size (s ++ Hd) (l.take i)
                    rw [HL.out, ByteArray.size_append] at hlz
                    have q6 := fun w => kad (P := Tryd.prog) (a := lns (s ++ Hd) (l.take i)) (b := tEnd) (by omega) w
                    rw [HPC.out] at q6
                    simp only [tEnd] at q6
                    rw [eT]
                    clear hlz eT
                    go_wp2_with (fail)
                    go_roundg r
                    case measure => omega
                    case rel => exact ⟨s ++ piece l, l.drop P, N - P, C - P, _, rfl, rfl, HDp, HN2, by omega, by omega, by omega, HF, HZ.out, HG2, hB⟩
                  | succ r3 =>
                    have hlt : i < x' := by omega
                    have i1 : (i : Int) < (x' : Int) := by omega
                    obtain ⟨x, hx⟩ : ∃ x, (l.take x')[i]? = some x := ⟨_, List.getElem?_eq_getElem (by rw [HL.out]; exact hlt)⟩
                    obtain ⟨g, o, rfl, hgw, hC⟩ := HTk.out.atGate hx
                    obtain ⟨q7, q8, q9⟩ : wr.cell? ⟨g, o + i * 3, none⟩ = some (.int .i64 x.f0) ∧ wr.cell? ⟨g, o + i * 3 + 1, none⟩ = some (.int .i64 x.f1) ∧ wr.cell? ⟨g, o + i * 3 + 2, none⟩ = some (.int .i64 x.f2) := ⟨(World.cell?_of_block (hB.block g hgw)).trans hC.1, (World.cell?_of_block (hB.block g hgw)).trans hC.2.1, (World.cell?_of_block (hB.block g hgw)).trans hC.2.2⟩
                    have HXT := lay (gtx_both (HG1.out i x hx)).1
                    have hlz := lns_size (s ++ Hd) ((l.take x').take i)
                    have hli : ((l.take x').take i).length ≤ i := by rw [List.length_take]; exact Nat.min_le_left _ _
                    rw [ByteArray.size_append] at hlz
                    have hlx := ln_size x
                    have k3 := fun w => kg1 (P := Tryd.prog) x w
                    have k4 := fun w => kad (P := Tryd.prog) (a := lns (s ++ Hd) ((l.take x').take i)) (b := gtx x ++ nl) (by omega) w
                    have HS3 := lay (lns_snoc (s ++ Hd) ((l.take x').take i) x)
                    have HT3 := lay (take_snoc hx)
                    clear hC hx hlz hli hlx
                    go_wp2_with (go_at_call 54; ((with_reducible refine (HXT.out _).mono ?_); rintro ee w4 ⟨rfl, hb4⟩))
                    have hB4 : Below w.heap.size w w4 := chn (hB.alloc (by omega) _) hb4 (by simp only [World.size_alloc]; omega)
                    go_roundg r3
                    case measure => omega
                    case rel => exact ⟨i + 1, by omega, by rw [← HT3.out, HS3.out], by go_num, hB4⟩
            · have m1' : m = 1 := by omega
              have bb1 : b = 1 := bm1 m1'
              have hE2 : Hid (x' = 0 ∧ y' = 0) := by
                have h := hE.out
                rw [spr_one m1'] at h
                cases h
                exact ⟨rfl, rfl⟩
              have x0 : (x' : Int) = 0 := by have := hE2.out.1; omega
              obtain rfl : P = 1 := by have := HP.out; rw [m1', bb1] at this; omega
              obtain ⟨x, hx⟩ : ∃ x, l[0]? = some x := ⟨_, List.getElem?_eq_getElem (by rw [HN.out]; omega)⟩
              have HPC : Hid (piece l = gtx x ++ nl) := by
                show _ = _
                rw [piece_1 HBS.out hm2, bb1, ← lns_one]
                congr 1
                cases l with
                | nil => simp at hx
                | cons y ys => simp at hx; rw [hx]; rfl
              obtain ⟨g, o, rfl, hgw, hC⟩ := HA.out.atGate hx
              rw [Nat.zero_mul, Nat.add_zero] at hC
              obtain ⟨q7, q8, q9⟩ : wr.cell? ⟨g, o, none⟩ = some (.int .i64 x.f0) ∧ wr.cell? ⟨g, o + 1, none⟩ = some (.int .i64 x.f1) ∧ wr.cell? ⟨g, o + 2, none⟩ = some (.int .i64 x.f2) := ⟨(World.cell?_of_block (hB.block g hgw)).trans hC.1, (World.cell?_of_block (hB.block g hgw)).trans hC.2.1, (World.cell?_of_block (hB.block g hgw)).trans hC.2.2⟩
              have HXT := lay (gtx_both (HG.out 0 x hx)).1
              have hlx := ln_size x
              have k3 := fun w => kg1 (P := Tryd.prog) x w
              have k4 := fun w => kad (P := Tryd.prog) (a := s) (b := gtx x ++ nl) (by omega) w
              rw [← HPC.out] at k3 k4
              have k5 : ∀ w, (Instr.slice 44 (.slice (some ⟨g, o, none⟩) N C) (some (.int .i64 1)) none none).run Tryd.prog w = .ok (.slice (sla (some ⟨g, o, none⟩) 1 C 3) (N - 1) (C - 1)) w := fun w => ksl (q := 1) bm w
              clear hC hx hlx k2
              rcases HEND.out with hj8 | ⟨hj8, hjN⟩
              all_goals
                go_wp2_with (go_at_call 54; ((with_reducible refine (HXT.out _).mono ?_); rintro ee w4 ⟨rfl, hb4⟩))
                have hB4 : Below w.heap.size w w4 := chn hB hb4 hBz
                go_roundg r
                case measure => omega
                case rel => exact ⟨s ++ piece l, l.drop 1, N - 1, C - 1, _, rfl, rfl, HDp, HN2, by omega, by omega, by omega, HF, HZ.out, HG2, hB4⟩
          | succ r2 =>
            have hj8 : (j : Int) ≤ 8 := by omega
            have hjN : (j : Int) ≤ (N : Int) := by omega
            have f1 : IntKind.i64.wrap ((j : Int) + 1) = (j : Int) + 1 := IntWalk.i64_in _ (by omega)
            obtain ⟨T, hT⟩ : ∃ T, tm l j = T := ⟨_, rfl⟩
            obtain ⟨t1, t9, _⟩ := tm_bd (l := l) (q := j) (by rw [HN.out]; omega)
            rw [hT] at t1 t9
            obtain ⟨U, hU⟩ : ∃ U : Nat, T * j = U := ⟨_, rfl⟩
            obtain ⟨V, hV⟩ : ∃ V : Nat, x' * y' = V := ⟨_, rfl⟩
            have hU8 : U ≤ 800 := by have := mulLe t9 (show j ≤ 8 by omega); omega
            have hV8 : V ≤ 800 := by have := mulLe x'8 y'9; omega
            have f2 := wrapMul hU (by omega)
            have f3 := wrapMul hV (by omega)
            have HT := lay hT
            have HS : Hid (bst l (i + 1) = bstep l (x, y) (i + 1)) := by show _ = _; rw [← HI.out]; rfl
            rw [hj] at HS
            have HU := lay hU
            have HV := lay hV
            clear hT hU hV
            by_cases c1 : 2 ≤ T
            · have c1' : (1 : Int) < (T : Int) := by omega
              have ht := spr_test (T := T) (j := j) HS1.out HXY.out (by omega) c1
              rw [HU.out, HV.out] at ht
              by_cases c2 : V < U
              · have c2' : (V : Int) < (U : Int) := by omega
                have HE : Hid (bst l j = (j, T)) := by show _ = _; rw [HS.out]; unfold bstep; rw [HT.out]; dsimp only; rw [if_pos ⟨c1, ht.1 c2⟩]
                have HS2 : Hid (spr (j, T) = (j, T)) := spr_self c1
                clear ht
                go_wp2_with (fail)
                refine (ts_s HT.out (HA.out.mono hB) HN.out hN4 (by omega) (by omega) (by omega)).mono ?_
                rintro ee w3 ⟨rfl, hb3⟩
                have hB3 := chn hB hb3 hBz
                clear hb3
                go_wp2_with (fail)
                go_roundg r2
                case measure => omega
                case rel => exact ⟨i + 1, j, T, j, T, by omega, rfl, rfl, by rw [hj]; rfl, by rw [hj]; exact HE, HS2, hB3⟩
              · have c2' : ¬ ((V : Int) < (U : Int)) := by omega
                have HE : Hid (bst l j = (x, y)) := by show _ = _; rw [HS.out]; unfold bstep; rw [HT.out]; dsimp only; rw [if_neg (fun k => c2 (ht.2 k.2))]
                clear ht
                go_wp2_with (fail)
                refine (ts_s HT.out (HA.out.mono hB) HN.out hN4 (by omega) (by omega) (by omega)).mono ?_
                rintro ee w3 ⟨rfl, hb3⟩
                have hB3 := chn hB hb3 hBz
                clear hb3
                go_wp2_with (fail)
                go_roundg r2
                case measure => omega
                case rel => exact ⟨i + 1, x, y, x', y', by omega, rfl, rfl, by rw [hj]; rfl, by rw [hj]; exact HE, HS1, hB3⟩
            · have c1' : ¬ ((1 : Int) < (T : Int)) := by omega
              have HE : Hid (bst l j = (x, y)) := by show _ = _; rw [HS.out]; unfold bstep; rw [HT.out, if_neg (fun k => c1 k.1)]
              go_wp2_with (fail)
              refine (ts_s HT.out (HA.out.mono hB) HN.out hN4 (by omega) (by omega) (by omega)).mono ?_
              rintro ee w3 ⟨rfl, hb3⟩
              have hB3 := chn hB hb3 hBz
              clear hb3
              go_wp2_with (fail)
              go_roundg r2
              case measure => omega
              case rel => exact ⟨i + 1, x, y, x', y', by omega, rfl, rfl, by rw [hj]; rfl, by rw [hj]; exact HE, HS1, hB3⟩
end Go.Proofs.YtdbnjoeanoiifaaDoor
