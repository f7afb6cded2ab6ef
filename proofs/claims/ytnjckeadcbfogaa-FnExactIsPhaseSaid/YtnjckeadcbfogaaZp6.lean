/- QFlatG, QCirc, QRdC, Held, OmegaIa -/
import Derived.Test.YtnjckeadcbfogaaZp5
import Derived.StillTailTactics
import Derived.Test.YtnjckeadcbfogaaRows
import Derived.ProofKit
import Derived.OpenShut
import Derived.ShutString
import Derived.ChangeOld
import Derived.Below
import Derived.Lib.SmallJoins
import Derived.Deep.Slices
import Derived.Deep.Strs
import Derived.DataReads
import Derived.Test.YtnjckeadcbfogaaZp0
import Derived.Deep.RegionHeld3
import Derived.Deep.MidRow
import Derived.Test.YtnjckeadcbfogaaZp1
import Derived.Deep.RegionWith
namespace Go.Proofs.Ytnjckeadcbfogaa.C4
open Go.RowKit
set_option linter.unusedVariables false
set_option linter.unusedSimpArgs false
attribute [local irreducible] World.setCell

theorem infoGate : (Try.prog.info? 161).map (fun i => (i.zero, i.size, i.bytes)) = some (some (.agg #[.int .i64 0, .int .i64 0, .int .i64 0]), 3, 24) := by kernel_rfl
theorem mkGate (n : Nat) (hn : n ≤ 1048576) (w : World) : (Instr.makeSlice 43 (.int .i64 (n : Int)) (.int .i64 (n : Int))).run Try.prog w = .ok (.slice (some ⟨w.heap.size, 0, none⟩) n n) (w.alloc (.cells (gateE.all (List.replicate n GateV.z)).toArray 161)) := by
  obtain ⟨i0, hi, hz0, hz1, hz2⟩ := info_parts infoGate
  have := run_make (P := Try.prog) w 43 161 i0 _ Try.underlying43 hi hz0 .i64 .i64 n n (by omega) (Int.le_refl _) (by rw [hz2]; omega) (by omega)
  rw [this, hz1]
  simp only [Int.toNat_natCast, Value.cells]
  have hm : madeCells #[.int .i64 0, .int .i64 0, .int .i64 0] (n * gateE.n) = _ := madeE (E := gateE) (z := GateV.z) rfl n
  rw [← hm]
  rfl

set_option maxRecDepth 100000 in
set_option maxHeartbeats 2000000 in
theorem toGate (x : GateV) (w : World) :
    Calls Try.prog 151 #[x.v] w fun ee w' => ee = .returned x.v ∧ Below w.heap.size w w' := by
  go_enter Try.func151, Try.ntmps151
  go_wp2_with (fail)
  refine bodyPost_ret (v := x.v) (by first | (simp [results, Try.results151, go_sem, *]; done) | (simp (disch := (first | omega | (simp; done) | (simp; omega))) [results, Try.results151, go_sem, *]; done) | (simp only [results, Try.results151]; go_simp; done)) rfl ⟨rfl, ?_⟩
  (repeat' (first | (with_reducible exact Below.refl _ _) | (with_reducible assumption) | (with_reducible refine Below.alloc ?_ ?_ _) | (with_reducible refine Below.drew ?_) | (with_reducible refine bdN ?_ _) | (with_reducible refine Below.setCell ?_ ?_ _) | (with_reducible refine chn ?_ (by assumption) ?_) | omega | (simp; done) | (simp; omega)))

set_option maxRecDepth 100000 in
set_option maxHeartbeats 2000000 in
theorem eqGate (x : GateV) (w : World) :
    Calls Try.prog 155 #[x.v, x.v] w fun ee w' => ee = .returned (.bool true) ∧ Below w.heap.size w w' := by
  go_enter Try.func155, Try.ntmps155
  go_wp2_with (fail)
  go_ret
  refine ⟨rfl, ?_⟩
  (repeat' (first | (with_reducible exact Below.refl _ _) | (with_reducible assumption) | (with_reducible refine Below.alloc ?_ ?_ _) | (with_reducible refine Below.drew ?_) | (with_reducible refine bdN ?_ _) | (with_reducible refine Below.setCell ?_ ?_ _) | (with_reducible refine chn ?_ (by assumption) ?_) | omega | (simp; done) | (simp; omega)))

set_option maxRecDepth 100000 in
set_option maxHeartbeats 2000000 in
theorem toGateS {A : Option Addr} {n c : Nat} {xs : List GateV} {w : World} (hR : Rd gateE w A xs) (hn : xs.length = n) (hb : n ≤ 1048576) :
    Calls Try.prog 92 #[.slice A n c] w fun ee w' => ee = .returned (.slice (some ⟨w.heap.size, 0, none⟩) n n) ∧ Bk gateE w' w.heap.size 161 xs ∧ Below w.heap.size w w' := by
  have hmk := mkGate n hb
  have HR := lay hR
  have HN := lay hn
  clear hR hn
  go_enter Try.func92, Try.ntmps92
  go_wp2_with (fail)
  go_loopg [4] n (fun k s1 wr => ∃ j : Nat, j + k = n ∧ s1 = .int .i64 (j : Int) ∧ Bk gateE wr w.heap.size 161 (xs.take j ++ List.replicate (n - j) GateV.z) ∧ Below w.heap.size w wr)
  case atStart => exact ⟨0, by omega, rfl, Bk.made rfl, by (repeat' (first | (with_reducible exact Below.refl _ _) | (with_reducible assumption) | (with_reducible refine Below.alloc ?_ ?_ _) | (with_reducible refine Below.drew ?_) | (with_reducible refine bdN ?_ _) | (with_reducible refine Below.setCell ?_ ?_ _) | (with_reducible refine chn ?_ (by assumption) ?_) | omega | (simp; done) | (simp; omega)))⟩
  case round =>
    obtain ⟨j, hj, rfl, hBk, hB⟩ := hrel
    cases gk with
    | zero =>
      obtain rfl : j = n := by omega
      have HBk := lay hBk
      clear hBk
      go_wp2_with (fail)
      go_ret
      refine ⟨rfl, ?_, hB⟩
      have h1 := HBk.out
      rw [Nat.sub_self, List.replicate_zero, List.append_nil, List.take_of_length_le (by rw [HN.out]; exact Nat.le_refl _)] at h1
      exact h1
    | succ m =>
      have hlt : j < n := by omega
      have hx : xs[j]? = some (xs[j]'(by rw [HN.out]; exact hlt)) := List.getElem?_eq_getElem _
      generalize xs[j]'(by rw [HN.out]; exact hlt) = x at hx
      obtain ⟨g, o, rfl, hgw, hC⟩ := HR.out.atGate hx
      have HX := lay hx
      clear hx
      have hC' : wr.cell? ⟨g, o + j * 3, none⟩ = some (.int .i64 x.f0) ∧ wr.cell? ⟨g, o + j * 3 + 1, none⟩ = some (.int .i64 x.f1) ∧ wr.cell? ⟨g, o + j * 3 + 2, none⟩ = some (.int .i64 x.f2) := ⟨(World.cell?_of_block (hB.block g hgw)).trans hC.1, (World.cell?_of_block (hB.block g hgw)).trans hC.2.1, (World.cell?_of_block (hB.block g hgw)).trans hC.2.2⟩
      obtain ⟨q0, q1, q2⟩ := hC'
      have hsz := hBk.lt
      have HBk := lay hBk
      clear hBk hC
      go_wp2_with ((go_at_call 151; ((with_reducible refine (toGate x _).mono ?_); rintro ee w1 ⟨rfl, hb1⟩; have hBk1 := lay (HBk.out.mono hb1); have fr1 := hBk1.out.fr; have hz1 := hBk1.out.lt; obtain ⟨p0, p1, p2⟩ := hBk1.out.atGate (k := j) (x := GateV.z) (filAt HN.out hlt))))
      go_roundg m
      case measure => omega
      case rel =>
        refine ⟨j + 1, by omega, by go_num, ?_, ?_⟩
        · have h1 := hBk1.out.stGate x (k := j) (by rw [filLen HN.out (Nat.le_of_lt hlt)]; exact hlt)
          rw [filSet HN.out HX.out] at h1
          exact h1
        · have hBx : Below w.heap.size w _ := hB.trans (hb1.mono hB.size)
          (repeat' (first | (with_reducible exact Below.refl _ _) | (with_reducible assumption) | (with_reducible refine Below.alloc ?_ ?_ _) | (with_reducible refine Below.drew ?_) | (with_reducible refine bdN ?_ _) | (with_reducible refine Below.setCell ?_ ?_ _) | (with_reducible refine chn ?_ (by assumption) ?_) | omega | (simp; done) | (simp; omega)))

set_option maxRecDepth 100000 in
set_option maxHeartbeats 2000000 in
theorem eqGateS {A B : Option Addr} {n c d : Nat} {xs : List GateV} {w : World} (hA : Rd gateE w A xs) (hB : Rd gateE w B xs) (hn : xs.length = n) (hb : n ≤ 1048576) :
    Calls Try.prog 95 #[.slice A n c, .slice B n d] w fun ee w' => ee = .returned (.bool true) ∧ Below w.heap.size w w' := by
  have HA := lay hA
  have HB := lay hB
  have HN := lay hn
  clear hA hB hn
  go_enter Try.func95, Try.ntmps95
  go_wp2_with (fail)
  go_loopg [5] n (fun k s1 wr => ∃ j : Nat, j + k = n ∧ s1 = .int .i64 (j : Int) ∧ Below w.heap.size w wr)
  case atStart => exact ⟨0, by omega, rfl, by (repeat' (first | (with_reducible exact Below.refl _ _) | (with_reducible assumption) | (with_reducible refine Below.alloc ?_ ?_ _) | (with_reducible refine Below.drew ?_) | (with_reducible refine bdN ?_ _) | (with_reducible refine Below.setCell ?_ ?_ _) | (with_reducible refine chn ?_ (by assumption) ?_) | omega | (simp; done) | (simp; omega)))⟩
  case round =>
    obtain ⟨j, hj, rfl, hB⟩ := hrel
    cases gk with
    | zero =>
      obtain rfl : j = n := by omega
      go_wp2_with (fail)
      go_ret
      exact ⟨rfl, hB⟩
    | succ m =>
      have hlt : j < n := by omega
      have hx : xs[j]? = some (xs[j]'(by rw [HN.out]; exact hlt)) := List.getElem?_eq_getElem _
      generalize xs[j]'(by rw [HN.out]; exact hlt) = x at hx
      obtain ⟨g, o, rfl, hgw, hC⟩ := HA.out.atGate hx
      obtain ⟨g', o', rfl, hgw', hD⟩ := HB.out.atGate hx
      clear hx
      have hC' : wr.cell? ⟨g, o + j * 3, none⟩ = some (.int .i64 x.f0) ∧ wr.cell? ⟨g, o + j * 3 + 1, none⟩ = some (.int .i64 x.f1) ∧ wr.cell? ⟨g, o + j * 3 + 2, none⟩ = some (.int .i64 x.f2) := ⟨(World.cell?_of_block (hB.block g hgw)).trans hC.1, (World.cell?_of_block (hB.block g hgw)).trans hC.2.1, (World.cell?_of_block (hB.block g hgw)).trans hC.2.2⟩
      have hD' : wr.cell? ⟨g', o' + j * 3, none⟩ = some (.int .i64 x.f0) ∧ wr.cell? ⟨g', o' + j * 3 + 1, none⟩ = some (.int .i64 x.f1) ∧ wr.cell? ⟨g', o' + j * 3 + 2, none⟩ = some (.int .i64 x.f2) := ⟨(World.cell?_of_block (hB.block g' hgw')).trans hD.1, (World.cell?_of_block (hB.block g' hgw')).trans hD.2.1, (World.cell?_of_block (hB.block g' hgw')).trans hD.2.2⟩
      obtain ⟨q0, q1, q2⟩ := hC'
      obtain ⟨p0, p1, p2⟩ := hD'
      clear hC hD
      go_wp2_with (fail)
      go_still_tail 8, (by kernel_rfl)
      change wpList _ _ _ _ _ wr.drew
      have hBd : Below w.heap.size w wr.drew := hB.drew
      have hzd := hBd.size
      generalize wr.drew = w2 at *
      go_wp2_with ((go_at_call 155; ((with_reducible refine (eqGate x _).mono ?_); rintro ee w1 ⟨rfl, hb1⟩)))
      go_roundg m
      case measure => omega
      case rel =>
        refine ⟨j + 1, by omega, by go_num, ?_⟩
        (repeat' (first | (with_reducible exact Below.refl _ _) | (with_reducible assumption) | (with_reducible refine Below.alloc ?_ ?_ _) | (with_reducible refine Below.drew ?_) | (with_reducible refine bdN ?_ _) | (with_reducible refine Below.setCell ?_ ?_ _) | (with_reducible refine chn ?_ (by assumption) ?_) | omega | (simp; done) | (simp; omega)))

set_option maxRecDepth 100000 in
set_option maxHeartbeats 2000000 in
theorem szGateS_t {A : Option Addr} {n c : Nat} {k : Int} {w : World} (hn : (n : Int) ≤ k) (hk : k ≤ 1048576) :
    Calls Try.prog 89 #[.slice A n c, .int .i64 k] w fun ee w' => ee = .returned (.int .i64 (k - n)) ∧ Below w.heap.size w w' := by
  have h0 : ¬ (k - (n : Int) < 0) := by omega
  have h1 : 0 ≤ k - (n : Int) := by omega
  go_enter Try.func89, Try.ntmps89
  go_wp2_with (fail)
  go_ret
  exact ⟨rfl, by (repeat' (first | (with_reducible exact Below.refl _ _) | (with_reducible assumption) | (with_reducible refine Below.alloc ?_ ?_ _) | (with_reducible refine Below.drew ?_) | (with_reducible refine bdN ?_ _) | (with_reducible refine Below.setCell ?_ ?_ _) | (with_reducible refine chn ?_ (by assumption) ?_) | omega | (simp; done) | (simp; omega)))⟩

set_option maxRecDepth 100000 in
set_option maxHeartbeats 2000000 in
theorem szGateS_f {A : Option Addr} {n c : Nat} {k : Int} {w : World} (hn : k < (n : Int)) (hk : k ≤ 1048576) (h0 : 0 ≤ k) (hb : n ≤ maxLen) :
    Calls Try.prog 89 #[.slice A n c, .int .i64 k] w fun ee w' => ee = .returned (.int .i64 (-1)) ∧ Below w.heap.size w w' := by
  unfold maxLen at hb
  go_enter Try.func89, Try.ntmps89
  go_wp2_with (fail)
  go_ret
  exact ⟨rfl, by (repeat' (first | (with_reducible exact Below.refl _ _) | (with_reducible assumption) | (with_reducible refine Below.alloc ?_ ?_ _) | (with_reducible refine Below.drew ?_) | (with_reducible refine bdN ?_ _) | (with_reducible refine Below.setCell ?_ ?_ _) | (with_reducible refine chn ?_ (by assumption) ?_) | omega | (simp; done) | (simp; omega)))⟩

set_option maxRecDepth 100000 in
set_option maxHeartbeats 2000000 in
theorem markGateS_n {A : Option Addr} {c : Nat} {k : Int} {w : World} :
    Calls Try.prog 96 #[.slice A 0 c, .int .i64 k] w fun ee w' => ee = .returned (.int .i64 k) ∧ Below w.heap.size w w' := by
  go_enter Try.func96, Try.ntmps96
  go_wp2_with (fail)
  refine wp_loop_rounds 1 ?_
  rw [rounds_succ]; go_wp2_with (fail)
  go_ret
  exact ⟨rfl, by (repeat' (first | (with_reducible exact Below.refl _ _) | (with_reducible assumption) | (with_reducible refine Below.alloc ?_ ?_ _) | (with_reducible refine Below.drew ?_) | (with_reducible refine bdN ?_ _) | (with_reducible refine Below.setCell ?_ ?_ _) | (with_reducible refine chn ?_ (by assumption) ?_) | omega | (simp; done) | (simp; omega)))⟩

set_option maxRecDepth 100000 in
set_option maxHeartbeats 4000000 in
theorem markGateS_s {g n c : Nat} {k : Int} {xs : List GateV} {w : World} (hB : Bs gateE w g 161 xs) (hn : xs.length = n) (hb : n ≤ 1048576) (h0 : 0 ≤ k) (h1 : k ≤ 100000000) :
    Calls Try.prog 96 #[.slice (some ⟨g, 0, none⟩) n c, .int .i64 k] w fun ee w' => ee = .returned (.int .i64 (k + 3 * (n : Int))) ∧ Bs gateE w' g 161 (mks GateV.mark k n) ∧ w.grownBy w' (some g) := by
  have HB := lay hB
  have HN := lay hn
  clear hB hn
  go_enter Try.func96, Try.ntmps96
  go_wp2_with (fail)
  go_loopg [1, 5] n (fun q s0 s1 wr => ∃ j : Nat, j + q = n ∧ s0 = .int .i64 (k + 3 * (j : Int)) ∧ s1 = .int .i64 (j : Int) ∧ Bs gateE wr g 161 (mks GateV.mark k j ++ xs.drop j) ∧ w.grownBy wr (some g))
  case atStart => exact ⟨0, by omega, by first | (go_num; done) | simp, rfl, HB.out, grwB (Below.refl _ _)⟩
  case round =>
    obtain ⟨j, hj, rfl, rfl, hBk, hG⟩ := hrel
    cases gk with
    | zero =>
      obtain rfl : j = n := by omega
      have HBk := lay hBk
      clear hBk
      go_wp2_with (fail)
      go_ret
      refine ⟨rfl, ?_, hG⟩
      have h1 := HBk.out
      rw [List.drop_of_length_le (by rw [HN.out]; exact Nat.le_refl _), List.append_nil] at h1
      exact h1
    | succ m =>
      have hlt : j < n := by omega
      have hl : j < xs.length := by rw [HN.out]; exact hlt
      obtain ⟨x, hx⟩ : ∃ x, xs[j]? = some x := ⟨_, List.getElem?_eq_getElem hl⟩
      obtain ⟨p0, p1, p2⟩ := hBk.atGate (mks_at GateV.mark (k := k) hx)
      have HL := lay hl
      clear hx hl
      have fr := hBk.fr
      have hsz := hBk.lt
      have HBk := lay hBk
      clear hBk
      have b0 : 0 ≤ k + 3 * (j : Int) := by omega
      have b1 : k + 3 * (j : Int) ≤ 1000000000 := by omega
      go_wp2_with (fail)
      go_roundg m
      case measure => omega
      case rel =>
        refine ⟨j + 1, by omega, by go_num, by go_num, ?_, ?_⟩
        · have h1 := HBk.out.stGate (GateV.mark k j) (k := j) (by rw [List.length_append, mks_len, List.length_drop]; have := HL.out; omega)
          rw [mks_set GateV.mark HL.out] at h1
          exact h1
        · exact setN_grown (vs := gateE.cs (GateV.mark k j)) (o := j * 3) hG

theorem markGateS {A : Option Addr} {B n c : Nat} {k : Int} {xs : List GateV} {w : World} (hO : Ow gateE w B 161 A xs) (hn : xs.length = n) (hb : n ≤ 1048576) (h0 : 0 ≤ k) (h1 : k ≤ 100000000) :
    Calls Try.prog 96 #[.slice A n c, .int .i64 k] w fun ee w' => ee = .returned (.int .i64 (k + 3 * (n : Int))) ∧ Ow gateE w' B 161 A (mks GateV.mark k n) ∧ w.grownBy w' (blk A) := by
  rcases hO with ⟨rfl, rfl⟩ | ⟨g, rfl, hg, hB⟩
  · obtain rfl : n = 0 := hn.symm
    refine markGateS_n.mono ?_
    rintro ee w1 ⟨rfl, hb1⟩
    exact ⟨by simp, Or.inl ⟨rfl, rfl⟩, grwB hb1⟩
  · refine (markGateS_s hB hn hb h0 h1).mono ?_
    rintro ee w1 ⟨rfl, hB1, hg1⟩
    exact ⟨rfl, Or.inr ⟨g, rfl, hg, hB1⟩, hg1⟩

end Go.Proofs.Ytnjckeadcbfogaa.C4
namespace Go.Proofs.Ytnjckeadcbfogaa.C4
open Go.RowKit
set_option linter.unusedVariables false
set_option linter.unusedSimpArgs false
attribute [local irreducible] World.setCell

abbrev circuitV (a0 : Int) (A1 : Option Addr) (n1 c1 : Nat) : Value := .agg #[.int .i64 a0, .slice (A1) n1 c1]
set_option maxRecDepth 100000 in
set_option maxHeartbeats 2000000 in
theorem szCircuit_t {a0 : Int} {A1 : Option Addr} {n1 c1 : Nat} {k : Int} {w : World} (hn : (n1 : Int) ≤ k) (hk : k ≤ 1048576) :
    Calls Try.prog 30 #[circuitV a0 A1 n1 c1, .int .i64 k] w fun ee w' => ee = .returned (.int .i64 (k - n1)) ∧ Below w.heap.size w w' := by
  have h0 : ¬ (k - (n1 : Int) < 0) := by omega
  have h1 : 0 ≤ k - (n1 : Int) := by omega
  go_enter Try.func30, Try.ntmps30
  go_wp2_with ((go_at_call 89; ((with_reducible refine (szGateS_t hn hk).mono ?_); rintro ee w1 ⟨rfl, hb1⟩)))
  go_ret
  refine ⟨rfl, ?_⟩
  (repeat' (first | (with_reducible exact Below.refl _ _) | (with_reducible assumption) | (with_reducible refine Below.alloc ?_ ?_ _) | (with_reducible refine Below.drew ?_) | (with_reducible refine bdN ?_ _) | (with_reducible refine Below.setCell ?_ ?_ _) | (with_reducible refine chn ?_ (by assumption) ?_) | omega | (simp; done) | (simp; omega)))

set_option maxRecDepth 100000 in
set_option maxHeartbeats 2000000 in
theorem szCircuit_f {a0 : Int} {A1 : Option Addr} {n1 c1 : Nat} {k : Int} {w : World} (hn : k < (n1 : Int)) (hk : k ≤ 1048576) (h0 : 0 ≤ k) (hb : n1 ≤ maxLen) :
    Calls Try.prog 30 #[circuitV a0 A1 n1 c1, .int .i64 k] w fun ee w' => ee = .returned (.int .i64 (-1)) ∧ Below w.heap.size w w' := by
  go_enter Try.func30, Try.ntmps30
  go_wp2_with ((go_at_call 89; ((with_reducible refine (szGateS_f hn hk h0 hb).mono ?_); rintro ee w1 ⟨rfl, hb1⟩)))
  go_ret
  refine ⟨rfl, ?_⟩
  (repeat' (first | (with_reducible exact Below.refl _ _) | (with_reducible assumption) | (with_reducible refine Below.alloc ?_ ?_ _) | (with_reducible refine Below.drew ?_) | (with_reducible refine bdN ?_ _) | (with_reducible refine Below.setCell ?_ ?_ _) | (with_reducible refine chn ?_ (by assumption) ?_) | omega | (simp; done) | (simp; omega)))

set_option maxRecDepth 100000 in
set_option maxHeartbeats 2000000 in
theorem toCircuit {a0 : Int} {A1 : Option Addr} {n1 c1 : Nat} {xs1 : List GateV} {w : World} (hR : Rd gateE w A1 xs1) (hn : xs1.length = n1) (hb : n1 ≤ 1048576) :
    Calls Try.prog 32 #[circuitV a0 A1 n1 c1] w fun ee w' => ∃ g1, ee = .returned (circuitV a0 (some ⟨g1, 0, none⟩) n1 n1) ∧ Bk gateE w' g1 161 xs1 ∧ w.heap.size ≤ g1 ∧ Below w.heap.size w w' := by
  have HR := lay hR
  have HN := lay hn
  clear hR hn
  go_enter Try.func32, Try.ntmps32
  go_wp2_with ((go_at_call 92; ((with_reducible refine (toGateS ?_ HN.out hb).mono ?_); (exact HR.out.mono (by (repeat' (first | (with_reducible exact Below.refl _ _) | (with_reducible assumption) | (with_reducible refine Below.alloc ?_ ?_ _) | (with_reducible refine Below.drew ?_) | (with_reducible refine bdN ?_ _) | (with_reducible refine Below.setCell ?_ ?_ _) | (with_reducible refine chn ?_ (by assumption) ?_) | omega | (simp; done) | (simp; omega))))); rintro ee w1 ⟨rfl, hB1, hb1⟩; simp only [World.size_alloc] at hB1; have HB1 := lay hB1; clear hB1; obtain ⟨hc1, hf1, _⟩ := bcl hb1; have hz1 := hb1.size; (try simp at hz1); (try have hx10 : w.heap.size < w1.heap.size := (by omega)); (try have hx11 : w.heap.size + 1 < w1.heap.size := (by omega)); (try have hx12 : w.heap.size + 1 + 1 < w1.heap.size := (by omega)); (try have hx13 : w.heap.size + 1 + 1 + 1 < w1.heap.size := (by omega)))))
  refine bodyPost_ret (v := circuitV a0 (some ⟨w.heap.size + 1 + 1 + 1, 0, none⟩) n1 n1) (by first | (simp [results, Try.results32, go_sem, *]; done) | (simp (disch := (first | omega | (simp; done) | (simp; omega))) [results, Try.results32, go_sem, *]; done) | (simp only [results, Try.results32]; go_simp; done)) rfl ⟨_, rfl, ?_, by omega, ?_⟩
  · refine HB1.out.at_ ?_
    (repeat (rw [Below.heap_setCell _ _ _ _ (by simp; try omega)]))
    try rfl
  · (repeat' (first | (with_reducible exact Below.refl _ _) | (with_reducible assumption) | (with_reducible refine Below.alloc ?_ ?_ _) | (with_reducible refine Below.drew ?_) | (with_reducible refine bdN ?_ _) | (with_reducible refine Below.setCell ?_ ?_ _) | (with_reducible refine chn ?_ (by assumption) ?_) | omega | (simp; done) | (simp; omega)))

set_option maxRecDepth 100000 in
set_option maxHeartbeats 2000000 in
theorem eqCircuit {a0 : Int} {A1 : Option Addr} {n1 c1 : Nat} {xs1 : List GateV} {B1 : Option Addr} {d1 : Nat} {w : World} (hA : Rd gateE w A1 xs1) (hB : Rd gateE w B1 xs1) (hn : xs1.length = n1) (hb : n1 ≤ 1048576) :
    Calls Try.prog 34 #[circuitV a0 A1 n1 c1, circuitV a0 B1 n1 d1] w fun ee w' => ee = .returned (.bool true) ∧ Below w.heap.size w w' := by
  have HA := lay hA
  have HB := lay hB
  have HN := lay hn
  clear hA hB hn
  go_enter Try.func34, Try.ntmps34
  go_wp2_with ((go_at_call 95; ((with_reducible refine (eqGateS ?_ ?_ HN.out hb).mono ?_); (exact HA.out.mono (by (repeat' (first | (with_reducible exact Below.refl _ _) | (with_reducible assumption) | (with_reducible refine Below.alloc ?_ ?_ _) | (with_reducible refine Below.drew ?_) | (with_reducible refine bdN ?_ _) | (with_reducible refine Below.setCell ?_ ?_ _) | (with_reducible refine chn ?_ (by assumption) ?_) | omega | (simp; done) | (simp; omega))))); (exact HB.out.mono (by (repeat' (first | (with_reducible exact Below.refl _ _) | (with_reducible assumption) | (with_reducible refine Below.alloc ?_ ?_ _) | (with_reducible refine Below.drew ?_) | (with_reducible refine bdN ?_ _) | (with_reducible refine Below.setCell ?_ ?_ _) | (with_reducible refine chn ?_ (by assumption) ?_) | omega | (simp; done) | (simp; omega))))); rintro ee w1 ⟨rfl, hb1⟩)))
  go_ret
  refine ⟨rfl, ?_⟩
  (repeat' (first | (with_reducible exact Below.refl _ _) | (with_reducible assumption) | (with_reducible refine Below.alloc ?_ ?_ _) | (with_reducible refine Below.drew ?_) | (with_reducible refine bdN ?_ _) | (with_reducible refine Below.setCell ?_ ?_ _) | (with_reducible refine chn ?_ (by assumption) ?_) | omega | (simp; done) | (simp; omega)))

set_option maxRecDepth 100000 in
set_option maxHeartbeats 2000000 in
theorem markCircuit {a0 : Int} {A1 : Option Addr} {n1 c1 : Nat} {B : Nat} {k : Int} {xs1 : List GateV} {w : World} (hO : Ow gateE w B 161 A1 xs1) (hn : xs1.length = n1) (hb : n1 ≤ 1048576) (h0 : 0 ≤ k) (h1 : k ≤ 100000000) :
    Calls Try.prog 35 #[circuitV a0 A1 n1 c1, .int .i64 k] w fun ee w' => ee = .returned (.int .i64 (k + 3 * (n1 : Int))) ∧ Ow gateE w' B 161 A1 (mks GateV.mark k n1) ∧ w.grownBy w' (blk A1) := by
  have HO := lay hO
  have HN := lay hn
  clear hO hn
  go_enter Try.func35, Try.ntmps35
  go_wp2_with ((go_at_call 96; ((with_reducible refine (markGateS (B := B) ?_ HN.out hb h0 h1).mono ?_); (exact HO.out.mono (by (repeat' (first | (with_reducible exact Below.refl _ _) | (with_reducible assumption) | (with_reducible refine Below.alloc ?_ ?_ _) | (with_reducible refine Below.drew ?_) | (with_reducible refine bdN ?_ _) | (with_reducible refine Below.setCell ?_ ?_ _) | (with_reducible refine chn ?_ (by assumption) ?_) | omega | (simp; done) | (simp; omega))))); rintro ee w1 ⟨rfl, hO1, hg1⟩; have HO1 := lay hO1; have HG1 := lay hg1; clear hO1 hg1)))
  go_ret
  exact ⟨rfl, HO1.out, grwAl HG1.out⟩

end Go.Proofs.Ytnjckeadcbfogaa.C4
namespace Go.Proofs.Ytnjckeadcbfogaa.C4
open Go.ChangeShapes Go.WideShapes Go.ChangeAt Go.RowKit Go.Joins Go.Deep
open Go.ChangeMaps (open_string shut_string)
set_option linter.unusedVariables false
set_option linter.unusedSimpArgs false

theorem cellsCircuit : Try.prog.cellsOf 40 = 2 := by kernel_rfl
set_option maxRecDepth 100000 in
theorem fieldsCircuit : ∃ f0 f1 : Field, Try.prog.underlying 40 = some (.struct #[f0, f1]) ∧ oneCellFields Try.prog #[f0, f1] = true ∧ f0.type = 3 ∧ f1.type = 38 := ⟨_, _, Try.underlying40, by kernel_rfl, rfl, rfl⟩
set_option maxRecDepth 100000 in
theorem argCircuit {H : Type} {enc : TypeId × Value → H} {W : World} {base : Nat} {spare : Nat → Bool} {held : Bool} {r : Reach} {b0 : Nat} {v : Value} {d : DataW H} {p : List MemPlace}
    (hv : Value.okWide Try.prog W r b0 40 v) (h : DataW.Trod enc Try.prog W base spare held 40 v d p) :
    ∃ (a0 : Int) (A1 : Option Addr) (n1 c1 : Nat) (xs1 : List GateV), v = circuitV a0 A1 n1 c1 ∧ I64 a0 ∧ (Rd gateE W A1 xs1 ∧ xs1.length = n1 ∧ n1 ≤ maxLen) := by
  obtain ⟨f0, f1, hs, ho, t0, t1⟩ := fieldsCircuit
  obtain ⟨v0, v1, y0, y1, n, rfl, _, _, h0, h1⟩ := open_agg2 hs ho cellsCircuit hv h
  rw [t0] at h0
  obtain ⟨a0, e0, _, w0⟩ := DataW.trod_int Try.underlying3 h0
  simp only [List.cons.injEq, and_true] at e0
  subst e0
  rw [t1] at h1
  obtain ⟨A1, n1, c1, xs1, rfl, r1⟩ := sliceGate h1
  exact ⟨a0, A1, n1, c1, xs1, rfl, bounds_i64 w0, r1⟩
end Go.Proofs.Ytnjckeadcbfogaa.C4
namespace Go.Proofs.Ytnjckeadcbfogaa
open Go.RowKit
theorem bcell_drew {W w1 : World} (hb : Below W.drew.heap.size W.drew w1) : (∀ b o, b < W.heap.size → w1.cell? ⟨b, o, none⟩ = W.cell? ⟨b, o, none⟩) ∧ (∀ b o, b < W.heap.size → w1.frozen? ⟨b, o, none⟩ = W.frozen? ⟨b, o, none⟩) ∧ W.heap.size ≤ w1.heap.size :=
  bcell (W := W.drew) hb
end Go.Proofs.Ytnjckeadcbfogaa
namespace Go.Proofs.Ytnjckeadcbfogaa
open Go.RowKit RM
set_option linter.unusedVariables false
set_option linter.unusedSimpArgs false
theorem vr_turn_0 {a b c d : Int} (h : vr a b c d = true) : vr a b c d = true := by
  rw [vr_iff] at *; omega
theorem mc_0 (a b c d : Int) (w : World) (hx : vr a b c d = true) :
    Calls Try.prog 201 #[rg a b c d, rg 1 0 0 0] w fun e w' => e = .returned (rg a b c d) ∧ Below w.heap.size w w' := by
  have h := mc a b c d 1 0 0 0 w hx (by decide)
  have e0 : m0 a b c d 1 0 0 0 = a := by simp [m0]
  have e1 : m1 a b c d 1 0 0 0 = b := by simp [m1]
  have e2 : m2 a b c d 1 0 0 0 = c := by simp [m2]
  have e3 : m3 a b c d 1 0 0 0 = d := by simp [m3]
  rw [e0, e1, e2, e3] at h
  exact h

set_option maxRecDepth 100000 in
set_option maxHeartbeats 2000000 in
theorem omega_i_0 (a b c d k : Int) (w : World) (t1 : -7 ≤ k.tmod 8) (t2 : k.tmod 8 ≤ 7) (t3 : (k.tmod 8 + 8) % 8 = 0) (t4 : (k.tmod 8 + 8).tmod 8 = 0) (g1 : -1000 ≤ k) (g2 : k ≤ 1000) (hx : vr a b c d = true) :
    Calls Try.prog 156 #[rg a b c d, .int .i64 k] w fun e w' => e = .returned (rt a b c d true) ∧ Below w.heap.size w w' := by
  have HX := hid hx
  clear hx
  go_enter Try.func156, Try.ntmps156
  go_wp2_with (first | (go_at_call 199; ((with_reducible refine (iv_t _ _ _ _ _ HX.out).mono ?_); rintro e w1 ⟨rfl, hb1⟩; obtain ⟨hc1, hf1, _⟩ := bcell hb1; have hz1 := hb1.size; (try simp at hz1); (try have hx10 : w.heap.size < w1.heap.size := (by omega)); (try have hx11 : w.heap.size + 1 < w1.heap.size := (by omega)); (try have hx12 : w.heap.size + 1 + 1 < w1.heap.size := (by omega)); (try have hx13 : w.heap.size + 1 + 1 + 1 < w1.heap.size := (by omega)))))
  go_region_with (first
   | (go_at_call 202; ((with_reducible refine (co _ _ _ _ _).mono ?_); rintro e w3 ⟨rfl, hb3⟩; ((first | (have hq3 := bcell_drew hb3) | (have hq3 := bcell hb3))); obtain ⟨hc3, hf3, hz3⟩ := hq3; (try simp at hz3); (try have hx30 : w.heap.size < w3.heap.size := (by omega)); (try have hx31 : w.heap.size + 1 < w3.heap.size := (by omega)); (try have ho3 : w1.heap.size < w3.heap.size := (by omega))))
   | (go_at_call 201; ((with_reducible refine (mc_0 _ _ _ _ _ HX.out).mono ?_); rintro e w4 ⟨rfl, hb4⟩; ((first | (have hq4 := bcell_drew hb4) | (have hq4 := bcell hb4))); obtain ⟨hc4, hf4, hz4⟩ := hq4; (try simp at hz4); (try have hx40 : w.heap.size < w4.heap.size := (by omega)); (try have hx41 : w.heap.size + 1 < w4.heap.size := (by omega)); (try have ho4 : w1.heap.size < w4.heap.size := (by omega))))
   | (go_at_call 200; ((with_reducible refine (ro_t _ _ _ _ _ (vr_turn_0 HX.out)).mono ?_); rintro e w5 ⟨rfl, hb5⟩; ((first | (have hq5 := bcell_drew hb5) | (have hq5 := bcell hb5))); obtain ⟨hc5, hf5, hz5⟩ := hq5; (try simp at hz5); (try have hx50 : w.heap.size < w5.heap.size := (by omega)); (try have hx51 : w.heap.size + 1 < w5.heap.size := (by omega)); (try have ho5 : w1.heap.size < w5.heap.size := (by omega)))))
  all_goals (go_wp2; refine bodyPost_ret (v := rt a b c d true) (by simp [results, Try.results156, go_sem, *]) rfl ⟨rfl, ?_⟩)
  all_goals (repeat' (first | (with_reducible exact Below.refl _ _) | (with_reducible refine Below.alloc ?_ ?_ _) | (with_reducible refine Below.drew ?_) | (with_reducible refine Below.setCell ?_ ?_ _) | (with_reducible refine chain ?_ (by assumption) ?_) | omega | (simp; done) | (simp; omega)))
theorem vr_turn_1 {a b c d : Int} (h : vr a b c d = true) : vr (-d) a b c = true := by
  rw [vr_iff] at *; omega
theorem mc_1 (a b c d : Int) (w : World) (hx : vr a b c d = true) :
    Calls Try.prog 201 #[rg a b c d, rg 0 1 0 0] w fun e w' => e = .returned (rg (-d) a b c) ∧ Below w.heap.size w w' := by
  have h := mc a b c d 0 1 0 0 w hx (by decide)
  have e0 : m0 a b c d 0 1 0 0 = -d := by simp [m0]
  have e1 : m1 a b c d 0 1 0 0 = a := by simp [m1]
  have e2 : m2 a b c d 0 1 0 0 = b := by simp [m2]
  have e3 : m3 a b c d 0 1 0 0 = c := by simp [m3]
  rw [e0, e1, e2, e3] at h
  exact h

set_option maxRecDepth 100000 in
set_option maxHeartbeats 2000000 in
theorem omega_i_1 (a b c d k : Int) (w : World) (t1 : -7 ≤ k.tmod 8) (t2 : k.tmod 8 ≤ 7) (t3 : (k.tmod 8 + 8) % 8 = 1) (t4 : (k.tmod 8 + 8).tmod 8 = 1) (g1 : -1000 ≤ k) (g2 : k ≤ 1000) (hx : vr a b c d = true) :
    Calls Try.prog 156 #[rg a b c d, .int .i64 k] w fun e w' => e = .returned (rt (-d) a b c true) ∧ Below w.heap.size w w' := by
  have HX := hid hx
  clear hx
  go_enter Try.func156, Try.ntmps156
  go_wp2_with (first | (go_at_call 199; ((with_reducible refine (iv_t _ _ _ _ _ HX.out).mono ?_); rintro e w1 ⟨rfl, hb1⟩; obtain ⟨hc1, hf1, _⟩ := bcell hb1; have hz1 := hb1.size; (try simp at hz1); (try have hx10 : w.heap.size < w1.heap.size := (by omega)); (try have hx11 : w.heap.size + 1 < w1.heap.size := (by omega)); (try have hx12 : w.heap.size + 1 + 1 < w1.heap.size := (by omega)); (try have hx13 : w.heap.size + 1 + 1 + 1 < w1.heap.size := (by omega)))))
  go_region_with (first
   | (go_at_call 202; ((with_reducible refine (co _ _ _ _ _).mono ?_); rintro e w3 ⟨rfl, hb3⟩; ((first | (have hq3 := bcell_drew hb3) | (have hq3 := bcell hb3))); obtain ⟨hc3, hf3, hz3⟩ := hq3; (try simp at hz3); (try have hx30 : w.heap.size < w3.heap.size := (by omega)); (try have hx31 : w.heap.size + 1 < w3.heap.size := (by omega)); (try have ho3 : w1.heap.size < w3.heap.size := (by omega))))
   | (go_at_call 201; ((with_reducible refine (mc_1 _ _ _ _ _ HX.out).mono ?_); rintro e w4 ⟨rfl, hb4⟩; ((first | (have hq4 := bcell_drew hb4) | (have hq4 := bcell hb4))); obtain ⟨hc4, hf4, hz4⟩ := hq4; (try simp at hz4); (try have hx40 : w.heap.size < w4.heap.size := (by omega)); (try have hx41 : w.heap.size + 1 < w4.heap.size := (by omega)); (try have ho4 : w1.heap.size < w4.heap.size := (by omega))))
   | (go_at_call 200; ((with_reducible refine (ro_t _ _ _ _ _ (vr_turn_1 HX.out)).mono ?_); rintro e w5 ⟨rfl, hb5⟩; ((first | (have hq5 := bcell_drew hb5) | (have hq5 := bcell hb5))); obtain ⟨hc5, hf5, hz5⟩ := hq5; (try simp at hz5); (try have hx50 : w.heap.size < w5.heap.size := (by omega)); (try have hx51 : w.heap.size + 1 < w5.heap.size := (by omega)); (try have ho5 : w1.heap.size < w5.heap.size := (by omega)))))
  all_goals (go_wp2; refine bodyPost_ret (v := rt (-d) a b c true) (by simp [results, Try.results156, go_sem, *]) rfl ⟨rfl, ?_⟩)
  all_goals (repeat' (first | (with_reducible exact Below.refl _ _) | (with_reducible refine Below.alloc ?_ ?_ _) | (with_reducible refine Below.drew ?_) | (with_reducible refine Below.setCell ?_ ?_ _) | (with_reducible refine chain ?_ (by assumption) ?_) | omega | (simp; done) | (simp; omega)))

end Go.Proofs.Ytnjckeadcbfogaa
