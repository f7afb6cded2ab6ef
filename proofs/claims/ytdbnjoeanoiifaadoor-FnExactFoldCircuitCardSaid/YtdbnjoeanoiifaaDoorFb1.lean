/- The best repetition: the program. -/
import Derived.Test.YtdbnjoeanoiifaaDoorFr2
namespace Go.Proofs.YtdbnjoeanoiifaaDoor
open Go.RowKit
set_option linter.unusedVariables false
set_option linter.unusedSimpArgs false
attribute [local irreducible] World.setCell

set_option maxRecDepth 100000 in
set_option maxHeartbeats 8000000 in
theorem best_i {A : Option Addr} {n c b m : Nat} {xs : List GateV} {w : World} (hb : best xs = (b, m)) (hA : Rd gateE w A xs) (hn : xs.length = n) (hl : n ≤ 400) (h1 : 1 ≤ n) (hc : n ≤ c) :
    Calls Tryd.prog 55 #[.slice A n c] w fun ee w' => ee = .returned (.tuple #[.int .i64 (b : Int), .int .i64 (m : Int)]) ∧ Below w.heap.size w w' := by
  obtain ⟨K, hK⟩ : ∃ K, min 8 n = K := ⟨_, rfl⟩
  have hK8 : K ≤ 8 := by omega
  have hKn : K ≤ n := by omega
  have hKm : min (8 : Int) (n : Int) = (K : Int) := by omega
  have HBT : Hid (bst xs K = (b, m)) := by show _ = _; rw [← hb, ← hK, ← hn]; rfl
  have HA := lay hA
  have HN := lay hn
  clear hA hn hb hK
  go_enter Tryd.func55, Tryd.ntmps55
  go_wp2_with (fail)
  go_loopg [4, 5, 6] K (fun k s4 s5 s6 wr => ∃ i x y : Nat, i + k = K ∧ s4 = .int .i64 (x : Int) ∧ s5 = .int .i64 (y : Int) ∧ s6 = .int .i64 ((i + 1 : Nat) : Int) ∧ Hid (bst xs i = (x, y)) ∧ Below w.heap.size w wr)
  case atStart => exact ⟨0, 1, 1, by omega, rfl, rfl, rfl, lay rfl, by (repeat' (first | (with_reducible exact Below.refl _ _) | (with_reducible assumption) | (with_reducible refine Below.alloc ?_ ?_ _) | (with_reducible refine Below.drew ?_) | (with_reducible refine bdN ?_ _) | (with_reducible refine Below.setCell ?_ ?_ _) | (with_reducible refine chn ?_ (by assumption) ?_) | omega | (simp; done) | (simp; omega)))⟩
  case round =>
    obtain ⟨i, x, y, hi, rfl, rfl, rfl, HI, hB⟩ := hrel
    have hBz := hB.size
    have hbd := bst_bd xs i (by rw [HN.out]; omega) (by omega) (by rw [HN.out]; omega)
    rw [HI.out] at hbd
    dsimp only at hbd
    obtain ⟨x1, x8, y1, y9, xy, xy1⟩ := hbd
    obtain ⟨j, hj⟩ : ∃ j, i + 1 = j := ⟨_, rfl⟩
    rw [hj]
    clear xy xy1
    cases gk with
    | zero =>
      have hik : i = K := by omega
      have hE : Hid (x = b ∧ y = m) := by
        have h := HBT.out
        rw [← hik, HI.out] at h
        cases h
        exact ⟨rfl, rfl⟩
      have hjK : ¬ ((j : Int) ≤ (K : Int)) := by omega
      obtain ⟨rfl, rfl⟩ := hE.out
      go_wp2_with (fail)
      refine bodyPost_ret (v := .tuple #[.int .i64 (x : Int), .int .i64 (y : Int)]) (by first | (simp [results, Tryd.results55, go_sem, *]; done) | (simp (disch := (first | omega | (simp; done) | (simp; omega))) [results, Tryd.results55, go_sem, *]; done) | (simp only [results, Tryd.results55]; go_simp; done)) rfl ⟨rfl, hB⟩
    | succ r =>
      have hjK : (j : Int) ≤ (K : Int) := by omega
      have e1 : IntKind.i64.wrap ((j : Int) + 1) = ((j + 1 : Nat) : Int) := by rw [IntWalk.i64_in _ (by omega)]; omega
      obtain ⟨T, hT⟩ : ∃ T, tm xs j = T := ⟨_, rfl⟩
      obtain ⟨t1, t9, _⟩ := tm_bd (l := xs) (q := j) (by rw [HN.out]; omega)
      rw [hT] at t1 t9
      obtain ⟨P, hP⟩ : ∃ P : Nat, j * T = P := ⟨_, rfl⟩
      obtain ⟨Q, hQ⟩ : ∃ Q : Nat, x * y = Q := ⟨_, rfl⟩
      have hP8 : P ≤ 800 := by have := mulLe (show j ≤ 8 by omega) t9; omega
      have hQ8 : Q ≤ 800 := by have := mulLe x8 y9; omega
      have e2 := wrapMul hP (by omega)
      have e3 := wrapMul hQ (by omega)
      have HT := lay hT
      have HS : Hid (bst xs (i + 1) = bstep xs (x, y) (i + 1)) := by show _ = _; rw [← HI.out]; rfl
      rw [hj] at HS
      have HP := lay hP
      have HQ := lay hQ
      clear hT hP hQ
      by_cases c1 : 2 ≤ T
      · have c1' : (2 : Int) ≤ (T : Int) := by omega
        by_cases c2 : Q < P
        · have c2' : (Q : Int) < (P : Int) := by omega
          have HE : Hid (bst xs j = (j, T)) := by show _ = _; rw [HS.out]; unfold bstep; rw [HT.out, HP.out]; dsimp only; rw [HQ.out, if_pos ⟨c1, c2⟩]
          go_wp2_with (fail)
          refine (ts_i HT.out (HA.out.mono hB) HN.out hl (by omega) (by omega) (by omega) hc).mono ?_
          rintro ee w2 ⟨rfl, hb2⟩
          have hB2 := chn hB hb2 hBz
          clear hb2
          go_wp2_with (fail)
          go_roundg r
          case measure => omega
          case rel => exact ⟨i + 1, j, T, by omega, rfl, rfl, by rw [hj]; rfl, by rw [hj]; exact HE, hB2⟩
        · have c2' : ¬ ((Q : Int) < (P : Int)) := by omega
          have HE : Hid (bst xs j = (x, y)) := by show _ = _; rw [HS.out]; unfold bstep; rw [HT.out, HP.out]; dsimp only; rw [HQ.out, if_neg (fun k => c2 k.2)]
          go_wp2_with (fail)
          refine (ts_i HT.out (HA.out.mono hB) HN.out hl (by omega) (by omega) (by omega) hc).mono ?_
          rintro ee w2 ⟨rfl, hb2⟩
          have hB2 := chn hB hb2 hBz
          clear hb2
          go_wp2_with (fail)
          go_roundg r
          case measure => omega
          case rel => exact ⟨i + 1, x, y, by omega, rfl, rfl, by rw [hj]; rfl, by rw [hj]; exact HE, hB2⟩
      · have c1' : ¬ ((2 : Int) ≤ (T : Int)) := by omega
        have HE : Hid (bst xs j = (x, y)) := by show _ = _; rw [HS.out]; unfold bstep; rw [HT.out, if_neg (fun k => c1 k.1)]
        go_wp2_with (fail)
        refine (ts_i HT.out (HA.out.mono hB) HN.out hl (by omega) (by omega) (by omega) hc).mono ?_
        rintro ee w2 ⟨rfl, hb2⟩
        have hB2 := chn hB hb2 hBz
        clear hb2
        go_wp2_with (fail)
        go_roundg r
        case measure => omega
        case rel => exact ⟨i + 1, x, y, by omega, rfl, rfl, by rw [hj]; rfl, by rw [hj]; exact HE, hB2⟩
end Go.Proofs.YtdbnjoeanoiifaaDoor
