/- How often gates are repeated: the model. -/
import Derived.Test.YtdbnjoeanoiifaaDoorFk
import Derived.Test.YtdbnjoeanoiifaaDoorSeG
import Derived.BigQuiet
import Derived.Deep.QuietTactic
import Derived.Deep.LoopGhost
namespace Go.Proofs.YtdbnjoeanoiifaaDoor
open Go.RowKit
set_option linter.unusedVariables false
set_option linter.unusedSimpArgs false
attribute [local irreducible] World.setCell

theorem natMul {a b c : Nat} (h : a * b = c) : (a : Int) * (b : Int) = (c : Int) := by rw [← h, Int.natCast_mul]
theorem wrapMul {a b c : Nat} (h : a * b = c) (hc : c ≤ 100000) : IntKind.i64.wrap ((a : Int) * (b : Int)) = (c : Int) := by rw [natMul h, IntWalk.i64_in _ (by omega)]
theorem wrapMul1 {a b c : Nat} (h : (a + 1) * b = c) (hc : c ≤ 100000) : IntKind.i64.wrap (((a : Int) + 1) * (b : Int)) = (c : Int) := wrapMul (a := a + 1) h hc
theorem mulLe {a b x y : Nat} (h : a ≤ x) (k : b ≤ y) : a * b ≤ x * y := Nat.mul_le_mul h k
set_option maxRecDepth 100000 in
set_option maxHeartbeats 8000000 in
theorem ts_s {A : Option Addr} {n c q T : Nat} {xs : List GateV} {w : World} (hT : tm xs q = T) (hA : Rd gateE w A xs) (hn : xs.length = n) (hl : n ≤ 400) (h1 : 1 ≤ q) (h8 : q ≤ 8) (hq : q ≤ n) :
    Calls Tryd.prog 53 #[.slice A n c, .int .i64 (q : Int)] w fun ee w' => ee = .returned (.int .i64 (T : Int)) ∧ Below w.heap.size w w' := by
  have HA := lay hA
  have HN := lay hn
  have HT0 := lay hT
  clear hA hn hT
  go_enter Tryd.func53, Tryd.ntmps53
  go_wp2_with (fail)
  go_loopg [5] 98 (fun k s5 wr => ∃ j : Nat, j + k = 99 ∧ 1 ≤ j ∧ s5 = .int .i64 (j : Int) ∧ Hid (j * q ≤ n) ∧ Hid (tmG xs q k j = T) ∧ Below w.heap.size w wr)
  case atStart => exact ⟨1, by omega, by omega, rfl, lay (by omega), HT0, by (repeat' (first | (with_reducible exact Below.refl _ _) | (with_reducible assumption) | (with_reducible refine Below.alloc ?_ ?_ _) | (with_reducible refine Below.drew ?_) | (with_reducible refine bdN ?_ _) | (with_reducible refine Below.setCell ?_ ?_ _) | (with_reducible refine chn ?_ (by assumption) ?_) | omega | (simp; done) | (simp; omega)))⟩
  case round =>
    obtain ⟨j, hj, hj1, rfl, HJ, HG, hB⟩ := hrel
    have hBz := hB.size
    have e1 : IntKind.i64.wrap ((j : Int) + 1) = (j : Int) + 1 := IntWalk.i64_in _ (by omega)
    obtain ⟨P, hP⟩ : ∃ P : Nat, (j + 1) * q = P := ⟨_, rfl⟩
    have hP8 : P ≤ 800 := by have := mulLe (show j + 1 ≤ 100 by omega) h8; omega
    have e2 := wrapMul1 hP (by omega)
    have HP := lay hP
    clear hP
    cases gk with
    | zero =>
      have hj9 : ¬ ((j : Int) < 99) := by omega
      obtain rfl : T = j := HG.out.symm
      by_cases hc : (P : Int) ≤ (n : Int)
      · go_wp2_with (fail)
        go_ret
        exact ⟨rfl, hB⟩
      · go_wp2_with (fail)
        go_ret
        exact ⟨rfl, hB⟩
    | succ m =>
      have hj9 : (j : Int) < 99 := by omega
      by_cases hc : (P : Int) ≤ (n : Int)
      · have hPn : P ≤ n := by omega
        obtain ⟨Q, hQ⟩ : ∃ Q : Nat, j * q = Q := ⟨_, rfl⟩
        have hPQ : Q + q = P := by have := HP.out; rw [Nat.add_mul, Nat.one_mul] at this; omega
        have e3 := wrapMul hQ (by omega)
        have HQ := lay hQ
        clear hQ
        go_wp2_with (fail)
        go_loopg [6] q (fun k s6 wr => ∃ i : Nat, i + k = q ∧ s6 = .int .i64 (i : Int) ∧ Hid (∀ t, t < i → xs[Q + t]? = xs[t]?) ∧ Below w.heap.size w wr)
        case atStart => exact ⟨0, by omega, rfl, lay (fun t ht => absurd ht (Nat.not_lt_zero _)), by (repeat' (first | (with_reducible exact Below.refl _ _) | (with_reducible assumption) | (with_reducible refine Below.alloc ?_ ?_ _) | (with_reducible refine Below.drew ?_) | (with_reducible refine bdN ?_ _) | (with_reducible refine Below.setCell ?_ ?_ _) | (with_reducible refine chn ?_ (by assumption) ?_) | omega | (simp; done) | (simp; omega)))⟩
        case round =>
          clear hB hBz
          obtain ⟨i, hi, rfl, HI, hB⟩ := hrel
          have hBz := hB.size
          cases gk with
          | zero =>
            obtain rfl : i = q := by omega
            have HE : Hid (tmG xs i m (j + 1) = T) := by
              show _ = _
              rw [← HG.out]
              exact (tmG_go (by rw [HP.out, HN.out]; exact hPn) (bkq_eq (by rw [HQ.out]; exact HI.out))).symm
            have HJ2 : Hid ((j + 1) * i ≤ n) := by show _ ≤ _; rw [HP.out]; exact hPn
            go_wp2_with (fail)
            go_roundg m
            case measure => omega
            case rel => exact ⟨j + 1, by omega, by omega, by go_num, HJ2, HE, hB⟩
          | succ m2 =>
            have hlt : i < q := by omega
            have i1 : (i : Int) < (q : Int) := by omega
            obtain ⟨R, hR⟩ : ∃ R : Nat, Q + i = R := ⟨_, rfl⟩
            have e4 : IntKind.i64.wrap ((Q : Int) + (i : Int)) = (R : Int) := by rw [IntWalk.i64_in _ (by omega)]; omega
            have e5 : IntKind.i64.wrap ((i : Int) + 1) = (i : Int) + 1 := IntWalk.i64_in _ (by omega)
            obtain ⟨x, hx⟩ : ∃ x, xs[R]? = some x := ⟨_, List.getElem?_eq_getElem (by rw [HN.out]; omega)⟩
            obtain ⟨y, hy⟩ : ∃ y, xs[i]? = some y := ⟨_, List.getElem?_eq_getElem (by rw [HN.out]; omega)⟩
            obtain ⟨g, o, rfl, hgw, hC⟩ := HA.out.atGate hx
            obtain ⟨g', o', e', hgw', hD⟩ := HA.out.atGate hy
            cases e'
            obtain ⟨q0, q1, q2⟩ : wr.cell? ⟨g, o + R * 3, none⟩ = some (.int .i64 x.f0) ∧ wr.cell? ⟨g, o + R * 3 + 1, none⟩ = some (.int .i64 x.f1) ∧ wr.cell? ⟨g, o + R * 3 + 2, none⟩ = some (.int .i64 x.f2) := ⟨(World.cell?_of_block (hB.block g hgw)).trans hC.1, (World.cell?_of_block (hB.block g hgw)).trans hC.2.1, (World.cell?_of_block (hB.block g hgw)).trans hC.2.2⟩
            obtain ⟨p0, p1, p2⟩ : wr.cell? ⟨g, o + i * 3, none⟩ = some (.int .i64 y.f0) ∧ wr.cell? ⟨g, o + i * 3 + 1, none⟩ = some (.int .i64 y.f1) ∧ wr.cell? ⟨g, o + i * 3 + 2, none⟩ = some (.int .i64 y.f2) := ⟨(World.cell?_of_block (hB.block g hgw)).trans hD.1, (World.cell?_of_block (hB.block g hgw)).trans hD.2.1, (World.cell?_of_block (hB.block g hgw)).trans hD.2.2⟩
            have r0 : (0 : Int) ≤ (R : Int) := by omega
            have r1 : (R : Int) < (n : Int) := by omega
            have s1 : (i : Int) < (n : Int) := by omega
            have HX := lay hx
            have HY := lay hy
            have HR := lay hR
            clear hx hy hC hD hR
            by_cases hxy : x = y
            · subst hxy
              have hop := neqGate_s x
              go_wp2_with (fail)
              go_quiet (fail)
              go_wp2_with (fail)
              go_roundg m2
              case measure => omega
              case rel =>
                refine ⟨i + 1, by omega, by go_num, lay (fun t ht => ?_), by (repeat' (first | (with_reducible exact Below.refl _ _) | (with_reducible assumption) | (with_reducible refine Below.alloc ?_ ?_ _) | (with_reducible refine Below.drew ?_) | (with_reducible refine bdN ?_ _) | (with_reducible refine Below.setCell ?_ ?_ _) | (with_reducible refine chn ?_ (by assumption) ?_) | omega | (simp; done) | (simp; omega)))⟩
                by_cases e : t = i
                · rw [e, HR.out, HX.out, HY.out]
                · exact HI.out t (by omega)
            · have hop := neqGate_d hxy
              obtain rfl : T = j := by
                rw [← HG.out]
                refine tmG_stop (fun k => bkq_ne (k := i) hlt ?_ k.2)
                rw [HQ.out, HR.out, HX.out, HY.out]
                intro e
                cases e
                exact hxy rfl
              clear hxy
              go_wp2_with (fail)
              go_quiet (fail)
              go_wp2_with (fail)
              go_ret
              refine ⟨rfl, ?_⟩
              (repeat' (first | (with_reducible exact Below.refl _ _) | (with_reducible assumption) | (with_reducible refine Below.alloc ?_ ?_ _) | (with_reducible refine Below.drew ?_) | (with_reducible refine bdN ?_ _) | (with_reducible refine Below.setCell ?_ ?_ _) | (with_reducible refine chn ?_ (by assumption) ?_) | omega | (simp; done) | (simp; omega)))
      · obtain rfl : T = j := by
          rw [← HG.out]
          exact tmG_stop (fun k => hc (by have h := k.1; rw [HP.out, HN.out] at h; omega))
        go_wp2_with (fail)
        go_ret
        exact ⟨rfl, hB⟩
end Go.Proofs.YtdbnjoeanoiifaaDoor
