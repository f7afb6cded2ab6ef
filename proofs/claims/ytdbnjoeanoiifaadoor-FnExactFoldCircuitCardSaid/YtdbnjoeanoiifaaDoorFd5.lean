/- FormatCircuit and its model. -/
import Derived.Test.YtdbnjoeanoiifaaDoorFc
import Derived.Deep.LoopGhost
import Derived.Deep.RegionHeld3
import Derived.Deep.DeepCutAuto
namespace Go.Proofs.YtdbnjoeanoiifaaDoor
open Go.RowKit
set_option linter.unusedVariables false
set_option linter.unusedSimpArgs false
attribute [local irreducible] World.setCell

/-- the first line -/
def qln (n : Nat) : ByteArray := (⟨#[113, 117, 98, 105, 116, 115, 32]⟩ ++ dgt n) ++ nl
theorem qln_size (n : Nat) : (qln n).size = 9 := by unfold qln; rw [ByteArray.size_append, ByteArray.size_append]; rfl
theorem kq1 {P : Program} (n : Nat) (w : World) : (Op.stringOp .add ⟨#[113, 117, 98, 105, 116, 115, 32]⟩ (dgt n)).run P w = .ok (.string (⟨#[113, 117, 98, 105, 116, 115, 32]⟩ ++ dgt n)) w := run_string_add_sum w _ _ (by rw [dgt_size]; decide)
theorem kq2 {P : Program} (n : Nat) (w : World) : (Op.stringOp .add (⟨#[113, 117, 98, 105, 116, 115, 32]⟩ ++ dgt n) ⟨#[10]⟩).run P w = .ok (.string (qln n)) w := run_string_add_sum w _ _ (by rw [ByteArray.size_append, dgt_size]; decide)
theorem kg1 {P : Program} (g : GateV) (w : World) : (Op.stringOp .add (gtx g) ⟨#[10]⟩).run P w = .ok (.string (gtx g ++ nl)) w := run_string_add_sum w _ _ (by have := gtx_size g; show (gtx g).size + 1 ≤ _; omega)
theorem kg2 {P : Program} {n : Nat} {xs : List GateV} (h : xs.length ≤ 400) (g : GateV) (w : World) : (Op.stringOp .add (lns (qln n) xs) (gtx g ++ nl)).run P w = .ok (.string (lns (qln n) xs ++ (gtx g ++ nl))) w :=
  run_string_add_sum w _ _ (by have h1 := lns_size (qln n) xs; have h2 := ln_size g; rw [qln_size] at h1; omega)
theorem kg3 {P : Program} {n : Nat} {xs : List GateV} (h : xs.length ≤ 400) (w : World) : (Op.stringOp .add (qln n) (lns ⟨#[]⟩ xs)).run P w = .ok (.string (lns (qln n) xs)) w := by
  rw [lns_head xs (qln n)]
  exact run_string_add_sum w _ _ (by have h1 := lns_size ⟨#[]⟩ xs; rw [qln_size]; have h2 : (⟨#[]⟩ : ByteArray).size = 0 := rfl; omega)

set_option maxRecDepth 100000 in
set_option maxHeartbeats 2000000 in
theorem qli {n : Nat} (h : n ≤ 9) (w : World) :
    Calls Tryd.prog 49 #[.int .i64 (n : Int)] w fun ee w' => ee = .returned (.string (qln n)) ∧ Below w.heap.size w w' := by
  have k1 := fun w => kq1 (P := Tryd.prog) n w
  have k2 := fun w => kq2 (P := Tryd.prog) n w
  go_enter Tryd.func49, Tryd.ntmps49
  go_wp2_with (go_at_call 28; ((with_reducible refine (itoa h _).mono ?_); rintro ee w1 ⟨rfl, hb1⟩))
  refine bodyPost_ret (v := .string (qln n)) (by first | (simp [results, Tryd.results49, go_sem, *]; done) | (simp only [results, Tryd.results49]; go_simp; done)) rfl ⟨rfl, hb1⟩
set_option maxRecDepth 100000 in
set_option maxHeartbeats 4000000 in
theorem fsl {n : Nat} {A1 : Option Addr} {n1 c1 : Nat} {xs : List GateV} {w : World} (hn5 : n ≤ 5) (hA : Rd gateE w A1 xs) (hn : xs.length = n1) (hl : n1 ≤ 400) (hok : ∀ (i : Nat) (g : GateV), xs[i]? = some g → gB 5 g = true) :
    Calls Tryd.prog 46 #[circuitV (n : Int) A1 n1 c1] w fun ee w' => ee = .returned (.string (lns (qln n) xs)) ∧ Below w.heap.size w w' := by
  have HA := lay hA
  have HN := lay hn
  have HO := lay hok
  clear hA hn hok
  have k1 := fun w => kq1 (P := Tryd.prog) n w
  have k2 := fun w => kq2 (P := Tryd.prog) n w
  go_enter Tryd.func46, Tryd.ntmps46
  go_wp2_with (fail)
  refine (nums (q := n) (by omega) _).mono ?_
  rintro ee w1 ⟨rfl, hb1⟩
  have X1 := lay (Bb.mono (b := w.heap.size) (t := 46) (cs := #[.int .i64 (n : Int), .slice A1 n1 c1]) (Bb.new rfl) hb1)
  have hs1 := hb1.size
  simp only [World.size_alloc] at hs1
  have B1 := lay (chn ((Below.refl w.heap.size w).alloc (Nat.le_refl _) _) hb1 (by simp))
  clear hb1
  have c0 := X1.out.c 0 rfl
  have c1' := X1.out.c 1 rfl
  have lx := X1.out.lt
  go_wp2_with (fail)
  go_loopg [3, 14] n1 (fun k s3 s14 wr => ∃ j : Nat, j + k = n1 ∧ s3 = .string (lns (qln n) (xs.take j)) ∧ s14 = .int .i64 (j : Int) ∧ Hid (Below w.heap.size w wr))
  case atStart => exact ⟨0, by omega, by rw [List.take_zero]; rfl, rfl, B1⟩
  case round =>
    clear c0 c1' lx X1 B1
    obtain ⟨j, hj, rfl, rfl, HB⟩ := hrel
    cases gk with
    | zero =>
      obtain rfl : j = n1 := by omega
      have e : lns (qln n) (xs.take j) = lns (qln n) xs := by rw [List.take_of_length_le (by rw [HN.out]; exact Nat.le_refl _)]
      rw [e]
      go_wp2_with (fail)
      go_ret
      exact ⟨rfl, HB.out⟩
    | succ m =>
      have hlt : j < n1 := by omega
      have j1 : (j : Int) < (n1 : Int) := by omega
      obtain ⟨x, hx⟩ : ∃ x, xs[j]? = some x := ⟨_, List.getElem?_eq_getElem (by rw [HN.out]; exact hlt)⟩
      obtain ⟨g, o, rfl, hgw, hC⟩ := HA.out.atGate hx
      have hB := HB.out
      have hBz := hB.size
      obtain ⟨q0, q1, q2⟩ : wr.cell? ⟨g, o + j * 3, none⟩ = some (.int .i64 x.f0) ∧ wr.cell? ⟨g, o + j * 3 + 1, none⟩ = some (.int .i64 x.f1) ∧ wr.cell? ⟨g, o + j * 3 + 2, none⟩ = some (.int .i64 x.f2) := ⟨(World.cell?_of_block (hB.block g hgw)).trans hC.1, (World.cell?_of_block (hB.block g hgw)).trans hC.2.1, (World.cell?_of_block (hB.block g hgw)).trans hC.2.2⟩
      have HX := lay (gtx_both (HO.out j x hx)).1
      have k3 := fun w => kg1 (P := Tryd.prog) x w
      have k4 := fun w => kg2 (P := Tryd.prog) (n := n) (xs := xs.take j) (by rw [List.length_take]; omega) x w
      have HS := lay (lns_snoc (qln n) (xs.take j) x)
      have HT := lay (take_snoc hx)
      clear hC hx hB k1 k2
      go_wp2_with (go_at_call 54; ((with_reducible refine (HX.out _).mono ?_); rintro ee w4 ⟨rfl, hb4⟩))
      go_roundg m
      case measure => omega
      case rel =>
        refine ⟨j + 1, by omega, ?_, by go_num, lay (chn (HB.out.alloc (by omega) _) hb4 (by simp only [World.size_alloc]; omega))⟩
        rw [← HT.out, HS.out]
end Go.Proofs.YtdbnjoeanoiifaaDoor
