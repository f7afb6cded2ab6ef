/- QFlat, QRdA, QFlatG, QCirc, QRdC, Math, Valid, OneArg, Prod, Held -/
import Derived.Test.YtofclfgaekjonaaZp0
import Derived.Test.YtofclfgaekjonaaRows
import Derived.ProofKit
import Derived.OpenShut
import Derived.ShutString
import Derived.ChangeOld
import Derived.Below
import Derived.Lib.SmallJoins
import Derived.Deep.Slices
import Derived.Deep.Strs
import Derived.DataReads
import Derived.StillTailTactics
import Derived.Test.YtofclfgaekjonaaProg
import Derived.Handy
import Derived.LoopTactic
import Derived.Deep.RegionHeld3
import Derived.Deep.MidRow
namespace Go.Proofs.Ytofclfgaekjonaa.C4
open Go.RowKit
set_option linter.unusedVariables false
set_option linter.unusedSimpArgs false
attribute [local irreducible] World.setCell

structure GateV where
  f0 : Int
  f1 : Int
  f2 : Int
abbrev GateV.v (x : GateV) : Value := .agg #[.int .i64 x.f0, .int .i64 x.f1, .int .i64 x.f2]
def GateV.cs (x : GateV) : List Value := [.int .i64 x.f0, .int .i64 x.f1, .int .i64 x.f2]
def gateE : Enc GateV := ⟨3, GateV.cs, fun _ => rfl, by decide, fun x v h => by
  simp only [GateV.cs, List.mem_cons, List.not_mem_nil, or_false] at h
  rcases h with rfl | rfl | rfl <;> rfl⟩
def GateV.z : GateV := ⟨0, 0, 0⟩
theorem Ex.atGate {W : World} {g o : Nat} {x : GateV} (h : Ex gateE W g o x) : W.cell? ⟨g, o, none⟩ = some (.int .i64 x.f0) ∧ W.cell? ⟨g, o + 1, none⟩ = some (.int .i64 x.f1) ∧ W.cell? ⟨g, o + 2, none⟩ = some (.int .i64 x.f2) := ⟨h 0 _ rfl, h 1 _ rfl, h 2 _ rfl⟩
theorem Rd.atGate {W : World} {A : Option Addr} {xs : List GateV} (h : Rd gateE W A xs) {k : Nat} {x : GateV} (hx : xs[k]? = some x) : ∃ g o, A = some ⟨g, o, none⟩ ∧ g < W.heap.size ∧ W.cell? ⟨g, o + k * 3, none⟩ = some (.int .i64 x.f0) ∧ W.cell? ⟨g, o + k * 3 + 1, none⟩ = some (.int .i64 x.f1) ∧ W.cell? ⟨g, o + k * 3 + 2, none⟩ = some (.int .i64 x.f2) := by
  obtain ⟨g, o, e, hc⟩ := h k x hx
  have he : o + k * gateE.n = o + k * 3 := rfl
  rw [he] at hc
  exact ⟨g, o, e, hc.lt, hc.atGate⟩
theorem Bk.atGate {W : World} {g : Nat} {t : TypeId} {xs : List GateV} (h : Bk gateE W g t xs) {k : Nat} {x : GateV} (hx : xs[k]? = some x) : W.cell? ⟨g, k * 3, none⟩ = some (.int .i64 x.f0) ∧ W.cell? ⟨g, k * 3 + 1, none⟩ = some (.int .i64 x.f1) ∧ W.cell? ⟨g, k * 3 + 2, none⟩ = some (.int .i64 x.f2) := by
  have hc := h.ex hx
  have he : k * gateE.n = k * 3 := rfl
  rw [he] at hc
  exact hc.atGate
theorem Bs.atGate {W : World} {g : Nat} {t : TypeId} {xs : List GateV} (h : Bs gateE W g t xs) {k : Nat} {x : GateV} (hx : xs[k]? = some x) : W.cell? ⟨g, k * 3, none⟩ = some (.int .i64 x.f0) ∧ W.cell? ⟨g, k * 3 + 1, none⟩ = some (.int .i64 x.f1) ∧ W.cell? ⟨g, k * 3 + 2, none⟩ = some (.int .i64 x.f2) := by
  have hc := h.ex hx
  have he : k * gateE.n = k * 3 := rfl
  rw [he] at hc
  exact hc.atGate
theorem Bk.stGate {W : World} {g : Nat} {t : TypeId} {xs : List GateV} (h : Bk gateE W g t xs) {k : Nat} (x : GateV) (hk : k < xs.length) : Bk gateE (((W.setCell ⟨g, k * 3, none⟩ (.int .i64 x.f0)).setCell ⟨g, k * 3 + 1, none⟩ (.int .i64 x.f1)).setCell ⟨g, k * 3 + 2, none⟩ (.int .i64 x.f2)) g t (xs.set k x) := by
  have h1 := h.set x hk
  have he : k * gateE.n = k * 3 := rfl
  rw [he] at h1
  exact h1
theorem Bs.stGate {W : World} {g : Nat} {t : TypeId} {xs : List GateV} (h : Bs gateE W g t xs) {k : Nat} (x : GateV) (hk : k < xs.length) : Bs gateE (((W.setCell ⟨g, k * 3, none⟩ (.int .i64 x.f0)).setCell ⟨g, k * 3 + 1, none⟩ (.int .i64 x.f1)).setCell ⟨g, k * 3 + 2, none⟩ (.int .i64 x.f2)) g t (xs.set k x) := by
  have h1 := h.set x hk
  have he : k * gateE.n = k * 3 := rfl
  rw [he] at h1
  exact h1
end Go.Proofs.Ytofclfgaekjonaa.C4
namespace Go.Proofs.Ytofclfgaekjonaa.C4
open Go.ChangeShapes Go.WideShapes Go.ChangeAt Go.RowKit Go.Joins Go.Deep
open Go.ChangeMaps (open_string shut_string)
set_option linter.unusedVariables false
set_option linter.unusedSimpArgs false

theorem own : ownKnob Try.prog.godebug = none := by kernel_rfl
theorem laidOut : laidOutB Try.prog = true := by kernel_rfl
/-- within int -/
abbrev I64 (x : Int) : Prop := -9223372036854775808 ≤ x ∧ x ≤ 9223372036854775807
theorem cellsInt : Try.prog.cellsOf 3 = 1 := by kernel_rfl
theorem listOf {α : Type} {P : Nat → α → Prop} (n : Nat) (h : ∀ i, i < n → ∃ d, P i d) : ∃ xs : List α, xs.length = n ∧ ∀ k x, xs[k]? = some x → P k x := by
  induction n with
  | zero => exact ⟨[], rfl, fun k x hk => by simp at hk⟩
  | succ n ih =>
    obtain ⟨xs, hl, hx⟩ := ih (fun i hi => h i (by omega))
    obtain ⟨d, hd⟩ := h n (by omega)
    refine ⟨xs ++ [d], by simp [hl], fun k x hk => ?_⟩
    rw [List.getElem?_append] at hk
    split at hk
    · exact hx k x hk
    · rename_i hge
      have hkn : k = n := by
        have := (List.getElem?_eq_some_iff.1 hk).1
        simp at this; omega
      subst hkn
      rw [hl, Nat.sub_self] at hk
      simp only [List.getElem?_cons_zero, Option.some.injEq] at hk
      rw [← hk]; exact hd
/-- a slice of flat values that came in -/
theorem sliceArg {α : Type} (E : Enc α) {H : Type} {enc : TypeId × Value → H} {W : World} {base : Nat} {spare : Nat → Bool} {held : Bool} {fuel : Nat} {v : Value} {x : DataW H × List MemPlace} {st et : TypeId} (hu : Try.prog.underlying st = some (.slice et)) (hc : Try.prog.cellsOf et = E.n)
    (hcells : ∀ {fuel : Nat} {cs : List Value} {x : DataW H × List MemPlace}, cs.length = E.n → DataW.trod enc Try.prog W base spare held fuel et cs = some x → ∃ d : α, cs = E.cs d)
    (h : DataW.trod enc Try.prog W base spare held fuel st [v] = some x) :
    ∃ (A : Option Addr) (n cp : Nat) (xs : List α), v = .slice A n cp ∧ Rd E W A xs ∧ xs.length = n ∧ n ≤ maxLen := by
  rcases open_slice hu h with ⟨e, _⟩ | ⟨a, len, cap, m, k, D, Pl, e, hb, hl, hm, hmm, _, hi⟩
  · simp only [List.cons.injEq, and_true] at e
    exact ⟨none, 0, 0, [], e, Rd.nil _ _, rfl, Nat.zero_le _⟩
  · simp only [List.cons.injEq, and_true] at e
    rw [hc] at hi
    have hlm : len ≤ m := by rw [hmm]; split <;> omega
    have each : ∀ i, i < len → ∃ d : α, ∀ j u, (E.cs d)[j]? = some u → W.cell? ((a.add (i * E.n)).add j) = some u := by
      intro i hi2
      obtain ⟨cs', h1, h2⟩ := hi i (by omega)
      obtain ⟨_, hlen, hat⟩ := World.cells?_some h1
      obtain ⟨d, rfl⟩ := hcells hlen h2
      refine ⟨d, fun j u hu => ?_⟩
      have hj := (List.getElem?_eq_some_iff.1 hu).1
      rw [hat j (by rw [E.len] at hj; exact hj), hu]
    obtain ⟨xs, hxl, hx⟩ := listOf len each
    refine ⟨some a, len, cap, xs, e, ?_, hxl, Nat.le_trans hl hm⟩
    have hspot : 0 < len → a.spot = none := by
      intro h0
      obtain ⟨d, hd⟩ := each 0 h0
      have hp : 0 < (E.cs d).length := by rw [E.len]; exact E.pos
      have := hd 0 _ (List.getElem?_eq_getElem hp)
      simp only [Nat.zero_mul, Addr.add, if_true] at this
      exact World.cell?_spot this
    intro k y hk
    have hkl : k < len := by rw [← hxl]; exact (List.getElem?_eq_some_iff.1 hk).1
    have hs := hspot (by omega)
    obtain ⟨g, o, sp⟩ := a
    dsimp only at hs
    subst hs
    have hy := hx k y hk
    simp only [adrAdd] at hy
    exact ⟨g, o, rfl, fun j u hj => hy j u hj⟩
theorem cellsGate : Try.prog.cellsOf 152 = 3 := by kernel_rfl
set_option maxRecDepth 100000 in
theorem fieldsGate : ∃ f0 f1 f2 : Field, Try.prog.underlying 152 = some (.struct #[f0, f1, f2]) ∧ f0.type = 3 ∧ f0.offset = 0 ∧ f1.type = 3 ∧ f1.offset = 1 ∧ f2.type = 3 ∧ f2.offset = 2 := ⟨_, _, _, Try.underlying152, rfl, rfl, rfl, rfl, rfl, rfl⟩
theorem cells_Gate {H : Type} {enc : TypeId × Value → H} {W : World} {base : Nat} {spare : Nat → Bool} {held : Bool} {fuel : Nat} {cs : List Value} {x : DataW H × List MemPlace} (hl : cs.length = 3) (hf : DataW.trod enc Try.prog W base spare held fuel 152 cs = some x) : ∃ d : GateV, cs = gateE.cs d := by
  obtain ⟨f0, f1, f2, hs, t0, o0, t1, o1, t2, o2⟩ := fieldsGate
  match cs, hl with
  | [c0, c1, c2], _ =>
    obtain ⟨y0, y1, y2, n, _, _, h0, h1, h2⟩ := trod_struct3 hs hf
    rw [t0, o0, cellsInt] at h0
    rw [t1, o1, cellsInt] at h1
    rw [t2, o2, cellsInt] at h2
    simp only [List.drop_zero, List.take_succ_cons, List.take_zero, List.drop_succ_cons] at h0 h1 h2
    obtain ⟨a0, e0, _, _⟩ := DataW.trod_int Try.underlying3 h0
    obtain ⟨a1, e1, _, _⟩ := DataW.trod_int Try.underlying3 h1
    obtain ⟨a2, e2, _, _⟩ := DataW.trod_int Try.underlying3 h2
    simp only [List.cons.injEq, and_true] at e0 e1 e2
    subst e0 e1 e2
    exact ⟨⟨a0, a1, a2⟩, rfl⟩
theorem sliceGate {H : Type} {enc : TypeId × Value → H} {W : World} {base : Nat} {spare : Nat → Bool} {held : Bool} {fuel : Nat} {v : Value} {x : DataW H × List MemPlace} (h : DataW.trod enc Try.prog W base spare held fuel 34 [v] = some x) :
    ∃ (A : Option Addr) (n cp : Nat) (xs : List GateV), v = .slice A n cp ∧ Rd gateE W A xs ∧ xs.length = n ∧ n ≤ maxLen :=
  sliceArg gateE Try.underlying34 cellsGate (fun hl hf => cells_Gate hl hf) h
end Go.Proofs.Ytofclfgaekjonaa.C4
namespace Go.Proofs.Ytofclfgaekjonaa.C4
open Go.RowKit
set_option linter.unusedVariables false
set_option linter.unusedSimpArgs false
attribute [local irreducible] World.setCell

theorem infoGate : (Try.prog.info? 150).map (fun i => (i.zero, i.size, i.bytes)) = some (some (.agg #[.int .i64 0, .int .i64 0, .int .i64 0]), 3, 24) := by kernel_rfl
theorem mkGate (n : Nat) (hn : n ≤ 1048576) (w : World) : (Instr.makeSlice 40 (.int .i64 (n : Int)) (.int .i64 (n : Int))).run Try.prog w = .ok (.slice (some ⟨w.heap.size, 0, none⟩) n n) (w.alloc (.cells (gateE.all (List.replicate n GateV.z)).toArray 150)) := by
  obtain ⟨i0, hi, hz0, hz1, hz2⟩ := info_parts infoGate
  have := run_make (P := Try.prog) w 40 150 i0 _ Try.underlying40 hi hz0 .i64 .i64 n n (by omega) (Int.le_refl _) (by rw [hz2]; omega) (by omega)
  rw [this, hz1]
  simp only [Int.toNat_natCast, Value.cells]
  have hm : madeCells #[.int .i64 0, .int .i64 0, .int .i64 0] (n * gateE.n) = _ := madeE (E := gateE) (z := GateV.z) rfl n
  rw [← hm]
  rfl

set_option maxRecDepth 100000 in
set_option maxHeartbeats 2000000 in
theorem toGate (x : GateV) (w : World) :
    Calls Try.prog 117 #[x.v] w fun ee w' => ee = .returned x.v ∧ Below w.heap.size w w' := by
  go_enter Try.func117, Try.ntmps117
  go_wp2_with (fail)
  refine bodyPost_ret (v := x.v) (by first | (simp [results, Try.results117, go_sem, *]; done) | (simp (disch := (first | omega | (simp; done) | (simp; omega))) [results, Try.results117, go_sem, *]; done) | (simp only [results, Try.results117]; go_simp; done)) rfl ⟨rfl, ?_⟩
  (repeat' (first | (with_reducible exact Below.refl _ _) | (with_reducible assumption) | (with_reducible refine Below.alloc ?_ ?_ _) | (with_reducible refine Below.drew ?_) | (with_reducible refine bdN ?_ _) | (with_reducible refine Below.setCell ?_ ?_ _) | (with_reducible refine chn ?_ (by assumption) ?_) | omega | (simp; done) | (simp; omega)))

set_option maxRecDepth 100000 in
set_option maxHeartbeats 2000000 in
theorem eqGate (x : GateV) (w : World) :
    Calls Try.prog 122 #[x.v, x.v] w fun ee w' => ee = .returned (.bool true) ∧ Below w.heap.size w w' := by
  go_enter Try.func122, Try.ntmps122
  go_wp2_with (fail)
  go_ret
  refine ⟨rfl, ?_⟩
  (repeat' (first | (with_reducible exact Below.refl _ _) | (with_reducible assumption) | (with_reducible refine Below.alloc ?_ ?_ _) | (with_reducible refine Below.drew ?_) | (with_reducible refine bdN ?_ _) | (with_reducible refine Below.setCell ?_ ?_ _) | (with_reducible refine chn ?_ (by assumption) ?_) | omega | (simp; done) | (simp; omega)))

set_option maxRecDepth 100000 in
set_option maxHeartbeats 2000000 in
theorem toGateS {A : Option Addr} {n c : Nat} {xs : List GateV} {w : World} (hR : Rd gateE w A xs) (hn : xs.length = n) (hb : n ≤ 1048576) :
    Calls Try.prog 66 #[.slice A n c] w fun ee w' => ee = .returned (.slice (some ⟨w.heap.size, 0, none⟩) n n) ∧ Bk gateE w' w.heap.size 150 xs ∧ Below w.heap.size w w' := by
  have hmk := mkGate n hb
  have HR := lay hR
  have HN := lay hn
  clear hR hn
  go_enter Try.func66, Try.ntmps66
  go_wp2_with (fail)
  go_loopg [4] n (fun k s1 wr => ∃ j : Nat, j + k = n ∧ s1 = .int .i64 (j : Int) ∧ Bk gateE wr w.heap.size 150 (xs.take j ++ List.replicate (n - j) GateV.z) ∧ Below w.heap.size w wr)
  case atStart => exact ⟨0, by omega, rfl, Bk.made rfl, by (repeat' (first | (with_reducible exact Below.refl _ _) | (with_reducible assumption) | (with_reducible refine Below.alloc ?_ ?_ _) | (with_reducible refine Below.drew ?_) | (with_reducible refine bdN ?_ _) | (with_reducible refine Below.setCell ?_ ?_ _) | (with_reducible refine chn ?_ (by assumption) ?_) | omega | (simp; done) | (simp; omega)))⟩
  case round =>
    obtain ⟨j, hj, rfl, hBk, hB⟩ := hrel
    cases gk with
    | zero =>
      obtain rfl : j = n := by omega
      have HBk := lay hBk
      clear hBk
      go_wp2_with (fail)
      go_ret
      refine ⟨rfl, ?_, hB⟩
      have h1 := HBk.out
      rw [Nat.sub_self, List.replicate_zero, List.append_nil, List.take_of_length_le (by rw [HN.out]; exact Nat.le_refl _)] at h1
      exact h1
    | succ m =>
      have hlt : j < n := by omega
      have hx : xs[j]? = some (xs[j]'(by rw [HN.out]; exact hlt)) := List.getElem?_eq_getElem _
      generalize xs[j]'(by rw [HN.out]; exact hlt) = x at hx
      obtain ⟨g, o, rfl, hgw, hC⟩ := HR.out.atGate hx
      have HX := lay hx
      clear hx
      have hC' : wr.cell? ⟨g, o + j * 3, none⟩ = some (.int .i64 x.f0) ∧ wr.cell? ⟨g, o + j * 3 + 1, none⟩ = some (.int .i64 x.f1) ∧ wr.cell? ⟨g, o + j * 3 + 2, none⟩ = some (.int .i64 x.f2) := ⟨(World.cell?_of_block (hB.block g hgw)).trans hC.1, (World.cell?_of_block (hB.block g hgw)).trans hC.2.1, (World.cell?_of_block (hB.block g hgw)).trans hC.2.2⟩
      obtain ⟨q0, q1, q2⟩ := hC'
      have hsz := hBk.lt
      have HBk := lay hBk
      clear hBk hC
      go_wp2_with ((go_at_call 117; ((with_reducible refine (toGate x _).mono ?_); rintro ee w1 ⟨rfl, hb1⟩; have hBk1 := lay (HBk.out.mono hb1); have fr1 := hBk1.out.fr; have hz1 := hBk1.out.lt; obtain ⟨p0, p1, p2⟩ := hBk1.out.atGate (k := j) (x := GateV.z) (filAt HN.out hlt))))
      go_roundg m
      case measure => omega
      case rel =>
        refine ⟨j + 1, by omega, by go_num, ?_, ?_⟩
        · have h1 := hBk1.out.stGate x (k := j) (by rw [filLen HN.out (Nat.le_of_lt hlt)]; exact hlt)
          rw [filSet HN.out HX.out] at h1
          exact h1
        · have hBx : Below w.heap.size w _ := hB.trans (hb1.mono hB.size)
          (repeat' (first | (with_reducible exact Below.refl _ _) | (with_reducible assumption) | (with_reducible refine Below.alloc ?_ ?_ _) | (with_reducible refine Below.drew ?_) | (with_reducible refine bdN ?_ _) | (with_reducible refine Below.setCell ?_ ?_ _) | (with_reducible refine chn ?_ (by assumption) ?_) | omega | (simp; done) | (simp; omega)))

set_option maxRecDepth 100000 in
set_option maxHeartbeats 2000000 in
theorem eqGateS {A B : Option Addr} {n c d : Nat} {xs : List GateV} {w : World} (hA : Rd gateE w A xs) (hB : Rd gateE w B xs) (hn : xs.length = n) (hb : n ≤ 1048576) :
    Calls Try.prog 69 #[.slice A n c, .slice B n d] w fun ee w' => ee = .returned (.bool true) ∧ Below w.heap.size w w' := by
  have HA := lay hA
  have HB := lay hB
  have HN := lay hn
  clear hA hB hn
  go_enter Try.func69, Try.ntmps69
  go_wp2_with (fail)
  go_loopg [5] n (fun k s1 wr => ∃ j : Nat, j + k = n ∧ s1 = .int .i64 (j : Int) ∧ Below w.heap.size w wr)
  case atStart => exact ⟨0, by omega, rfl, by (repeat' (first | (with_reducible exact Below.refl _ _) | (with_reducible assumption) | (with_reducible refine Below.alloc ?_ ?_ _) | (with_reducible refine Below.drew ?_) | (with_reducible refine bdN ?_ _) | (with_reducible refine Below.setCell ?_ ?_ _) | (with_reducible refine chn ?_ (by assumption) ?_) | omega | (simp; done) | (simp; omega)))⟩
  case round =>
    obtain ⟨j, hj, rfl, hB⟩ := hrel
    cases gk with
    | zero =>
      obtain rfl : j = n := by omega
      go_wp2_with (fail)
      go_ret
      exact ⟨rfl, hB⟩
    | succ m =>
      have hlt : j < n := by omega
      have hx : xs[j]? = some (xs[j]'(by rw [HN.out]; exact hlt)) := List.getElem?_eq_getElem _
      generalize xs[j]'(by rw [HN.out]; exact hlt) = x at hx
      obtain ⟨g, o, rfl, hgw, hC⟩ := HA.out.atGate hx
      obtain ⟨g', o', rfl, hgw', hD⟩ := HB.out.atGate hx
      clear hx
      have hC' : wr.cell? ⟨g, o + j * 3, none⟩ = some (.int .i64 x.f0) ∧ wr.cell? ⟨g, o + j * 3 + 1, none⟩ = some (.int .i64 x.f1) ∧ wr.cell? ⟨g, o + j * 3 + 2, none⟩ = some (.int .i64 x.f2) := ⟨(World.cell?_of_block (hB.block g hgw)).trans hC.1, (World.cell?_of_block (hB.block g hgw)).trans hC.2.1, (World.cell?_of_block (hB.block g hgw)).trans hC.2.2⟩
      have hD' : wr.cell? ⟨g', o' + j * 3, none⟩ = some (.int .i64 x.f0) ∧ wr.cell? ⟨g', o' + j * 3 + 1, none⟩ = some (.int .i64 x.f1) ∧ wr.cell? ⟨g', o' + j * 3 + 2, none⟩ = some (.int .i64 x.f2) := ⟨(World.cell?_of_block (hB.block g' hgw')).trans hD.1, (World.cell?_of_block (hB.block g' hgw')).trans hD.2.1, (World.cell?_of_block (hB.block g' hgw')).trans hD.2.2⟩
      obtain ⟨q0, q1, q2⟩ := hC'
      obtain ⟨p0, p1, p2⟩ := hD'
      clear hC hD
      go_wp2_with (fail)
      go_still_tail 8, (by kernel_rfl)
      change wpList _ _ _ _ _ wr.drew
      have hBd : Below w.heap.size w wr.drew := hB.drew
      have hzd := hBd.size
      generalize wr.drew = w2 at *
      go_wp2_with ((go_at_call 122; ((with_reducible refine (eqGate x _).mono ?_); rintro ee w1 ⟨rfl, hb1⟩)))
      go_roundg m
      case measure => omega
      case rel =>
        refine ⟨j + 1, by omega, by go_num, ?_⟩
        (repeat' (first | (with_reducible exact Below.refl _ _) | (with_reducible assumption) | (with_reducible refine Below.alloc ?_ ?_ _) | (with_reducible refine Below.drew ?_) | (with_reducible refine bdN ?_ _) | (with_reducible refine Below.setCell ?_ ?_ _) | (with_reducible refine chn ?_ (by assumption) ?_) | omega | (simp; done) | (simp; omega)))

set_option maxRecDepth 100000 in
set_option maxHeartbeats 2000000 in
theorem szGateS_t {A : Option Addr} {n c : Nat} {k : Int} {w : World} (hn : (n : Int) ≤ k) (hk : k ≤ 1048576) :
    Calls Try.prog 63 #[.slice A n c, .int .i64 k] w fun ee w' => ee = .returned (.int .i64 (k - n)) ∧ Below w.heap.size w w' := by
  have h0 : ¬ (k - (n : Int) < 0) := by omega
  have h1 : 0 ≤ k - (n : Int) := by omega
  go_enter Try.func63, Try.ntmps63
  go_wp2_with (fail)
  go_ret
  exact ⟨rfl, by (repeat' (first | (with_reducible exact Below.refl _ _) | (with_reducible assumption) | (with_reducible refine Below.alloc ?_ ?_ _) | (with_reducible refine Below.drew ?_) | (with_reducible refine bdN ?_ _) | (with_reducible refine Below.setCell ?_ ?_ _) | (with_reducible refine chn ?_ (by assumption) ?_) | omega | (simp; done) | (simp; omega)))⟩

set_option maxRecDepth 100000 in
set_option maxHeartbeats 2000000 in
theorem szGateS_f {A : Option Addr} {n c : Nat} {k : Int} {w : World} (hn : k < (n : Int)) (hk : k ≤ 1048576) (h0 : 0 ≤ k) (hb : n ≤ maxLen) :
    Calls Try.prog 63 #[.slice A n c, .int .i64 k] w fun ee w' => ee = .returned (.int .i64 (-1)) ∧ Below w.heap.size w w' := by
  unfold maxLen at hb
  go_enter Try.func63, Try.ntmps63
  go_wp2_with (fail)
  go_ret
  exact ⟨rfl, by (repeat' (first | (with_reducible exact Below.refl _ _) | (with_reducible assumption) | (with_reducible refine Below.alloc ?_ ?_ _) | (with_reducible refine Below.drew ?_) | (with_reducible refine bdN ?_ _) | (with_reducible refine Below.setCell ?_ ?_ _) | (with_reducible refine chn ?_ (by assumption) ?_) | omega | (simp; done) | (simp; omega)))⟩

end Go.Proofs.Ytofclfgaekjonaa.C4
namespace Go.Proofs.Ytofclfgaekjonaa.C4
open Go.RowKit
set_option linter.unusedVariables false
set_option linter.unusedSimpArgs false
attribute [local irreducible] World.setCell

abbrev circuitV (a0 : Int) (A1 : Option Addr) (n1 c1 : Nat) : Value := .agg #[.int .i64 a0, .slice (A1) n1 c1]
set_option maxRecDepth 100000 in
set_option maxHeartbeats 2000000 in
theorem szCircuit_t {a0 : Int} {A1 : Option Addr} {n1 c1 : Nat} {k : Int} {w : World} (hn : (n1 : Int) ≤ k) (hk : k ≤ 1048576) :
    Calls Try.prog 20 #[circuitV a0 A1 n1 c1, .int .i64 k] w fun ee w' => ee = .returned (.int .i64 (k - n1)) ∧ Below w.heap.size w w' := by
  have h0 : ¬ (k - (n1 : Int) < 0) := by omega
  have h1 : 0 ≤ k - (n1 : Int) := by omega
  go_enter Try.func20, Try.ntmps20
  go_wp2_with ((go_at_call 63; ((with_reducible refine (szGateS_t hn hk).mono ?_); rintro ee w1 ⟨rfl, hb1⟩)))
  go_ret
  refine ⟨rfl, ?_⟩
  (repeat' (first | (with_reducible exact Below.refl _ _) | (with_reducible assumption) | (with_reducible refine Below.alloc ?_ ?_ _) | (with_reducible refine Below.drew ?_) | (with_reducible refine bdN ?_ _) | (with_reducible refine Below.setCell ?_ ?_ _) | (with_reducible refine chn ?_ (by assumption) ?_) | omega | (simp; done) | (simp; omega)))

set_option maxRecDepth 100000 in
set_option maxHeartbeats 2000000 in
theorem szCircuit_f {a0 : Int} {A1 : Option Addr} {n1 c1 : Nat} {k : Int} {w : World} (hn : k < (n1 : Int)) (hk : k ≤ 1048576) (h0 : 0 ≤ k) (hb : n1 ≤ maxLen) :
    Calls Try.prog 20 #[circuitV a0 A1 n1 c1, .int .i64 k] w fun ee w' => ee = .returned (.int .i64 (-1)) ∧ Below w.heap.size w w' := by
  go_enter Try.func20, Try.ntmps20
  go_wp2_with ((go_at_call 63; ((with_reducible refine (szGateS_f hn hk h0 hb).mono ?_); rintro ee w1 ⟨rfl, hb1⟩)))
  go_ret
  refine ⟨rfl, ?_⟩
  (repeat' (first | (with_reducible exact Below.refl _ _) | (with_reducible assumption) | (with_reducible refine Below.alloc ?_ ?_ _) | (with_reducible refine Below.drew ?_) | (with_reducible refine bdN ?_ _) | (with_reducible refine Below.setCell ?_ ?_ _) | (with_reducible refine chn ?_ (by assumption) ?_) | omega | (simp; done) | (simp; omega)))

set_option maxRecDepth 100000 in
set_option maxHeartbeats 2000000 in
theorem toCircuit {a0 : Int} {A1 : Option Addr} {n1 c1 : Nat} {xs1 : List GateV} {w : World} (hR : Rd gateE w A1 xs1) (hn : xs1.length = n1) (hb : n1 ≤ 1048576) :
    Calls Try.prog 22 #[circuitV a0 A1 n1 c1] w fun ee w' => ∃ g1, ee = .returned (circuitV a0 (some ⟨g1, 0, none⟩) n1 n1) ∧ Bk gateE w' g1 150 xs1 ∧ w.heap.size ≤ g1 ∧ Below w.heap.size w w' := by
  have HR := lay hR
  have HN := lay hn
  clear hR hn
  go_enter Try.func22, Try.ntmps22
  go_wp2_with ((go_at_call 66; ((with_reducible refine (toGateS ?_ HN.out hb).mono ?_); (exact HR.out.mono (by (repeat' (first | (with_reducible exact Below.refl _ _) | (with_reducible assumption) | (with_reducible refine Below.alloc ?_ ?_ _) | (with_reducible refine Below.drew ?_) | (with_reducible refine bdN ?_ _) | (with_reducible refine Below.setCell ?_ ?_ _) | (with_reducible refine chn ?_ (by assumption) ?_) | omega | (simp; done) | (simp; omega))))); rintro ee w1 ⟨rfl, hB1, hb1⟩; simp only [World.size_alloc] at hB1; have HB1 := lay hB1; clear hB1; obtain ⟨hc1, hf1, _⟩ := bcl hb1; have hz1 := hb1.size; (try simp at hz1); (try have hx10 : w.heap.size < w1.heap.size := (by omega)); (try have hx11 : w.heap.size + 1 < w1.heap.size := (by omega)); (try have hx12 : w.heap.size + 1 + 1 < w1.heap.size := (by omega)); (try have hx13 : w.heap.size + 1 + 1 + 1 < w1.heap.size := (by omega)))))
  refine bodyPost_ret (v := circuitV a0 (some ⟨w.heap.size + 1 + 1 + 1, 0, none⟩) n1 n1) (by first | (simp [results, Try.results22, go_sem, *]; done) | (simp (disch := (first | omega | (simp; done) | (simp; omega))) [results, Try.results22, go_sem, *]; done) | (simp only [results, Try.results22]; go_simp; done)) rfl ⟨_, rfl, ?_, by omega, ?_⟩
  · refine HB1.out.at_ ?_
    (repeat (rw [Below.heap_setCell _ _ _ _ (by simp; try omega)]))
    try rfl
  · (repeat' (first | (with_reducible exact Below.refl _ _) | (with_reducible assumption) | (with_reducible refine Below.alloc ?_ ?_ _) | (with_reducible refine Below.drew ?_) | (with_reducible refine bdN ?_ _) | (with_reducible refine Below.setCell ?_ ?_ _) | (with_reducible refine chn ?_ (by assumption) ?_) | omega | (simp; done) | (simp; omega)))

set_option maxRecDepth 100000 in
set_option maxHeartbeats 2000000 in
theorem eqCircuit {a0 : Int} {A1 : Option Addr} {n1 c1 : Nat} {xs1 : List GateV} {B1 : Option Addr} {d1 : Nat} {w : World} (hA : Rd gateE w A1 xs1) (hB : Rd gateE w B1 xs1) (hn : xs1.length = n1) (hb : n1 ≤ 1048576) :
    Calls Try.prog 24 #[circuitV a0 A1 n1 c1, circuitV a0 B1 n1 d1] w fun ee w' => ee = .returned (.bool true) ∧ Below w.heap.size w w' := by
  have HA := lay hA
  have HB := lay hB
  have HN := lay hn
  clear hA hB hn
  go_enter Try.func24, Try.ntmps24
  go_wp2_with ((go_at_call 69; ((with_reducible refine (eqGateS ?_ ?_ HN.out hb).mono ?_); (exact HA.out.mono (by (repeat' (first | (with_reducible exact Below.refl _ _) | (with_reducible assumption) | (with_reducible refine Below.alloc ?_ ?_ _) | (with_reducible refine Below.drew ?_) | (with_reducible refine bdN ?_ _) | (with_reducible refine Below.setCell ?_ ?_ _) | (with_reducible refine chn ?_ (by assumption) ?_) | omega | (simp; done) | (simp; omega))))); (exact HB.out.mono (by (repeat' (first | (with_reducible exact Below.refl _ _) | (with_reducible assumption) | (with_reducible refine Below.alloc ?_ ?_ _) | (with_reducible refine Below.drew ?_) | (with_reducible refine bdN ?_ _) | (with_reducible refine Below.setCell ?_ ?_ _) | (with_reducible refine chn ?_ (by assumption) ?_) | omega | (simp; done) | (simp; omega))))); rintro ee w1 ⟨rfl, hb1⟩)))
  go_ret
  refine ⟨rfl, ?_⟩
  (repeat' (first | (with_reducible exact Below.refl _ _) | (with_reducible assumption) | (with_reducible refine Below.alloc ?_ ?_ _) | (with_reducible refine Below.drew ?_) | (with_reducible refine bdN ?_ _) | (with_reducible refine Below.setCell ?_ ?_ _) | (with_reducible refine chn ?_ (by assumption) ?_) | omega | (simp; done) | (simp; omega)))

end Go.Proofs.Ytofclfgaekjonaa.C4
namespace Go.Proofs.Ytofclfgaekjonaa.C4
open Go.ChangeShapes Go.WideShapes Go.ChangeAt Go.RowKit Go.Joins Go.Deep
open Go.ChangeMaps (open_string shut_string)
set_option linter.unusedVariables false
set_option linter.unusedSimpArgs false

theorem cellsCircuit : Try.prog.cellsOf 36 = 2 := by kernel_rfl
set_option maxRecDepth 100000 in
theorem fieldsCircuit : ∃ f0 f1 : Field, Try.prog.underlying 36 = some (.struct #[f0, f1]) ∧ oneCellFields Try.prog #[f0, f1] = true ∧ f0.type = 3 ∧ f1.type = 34 := ⟨_, _, Try.underlying36, by kernel_rfl, rfl, rfl⟩
set_option maxRecDepth 100000 in
theorem argCircuit {H : Type} {enc : TypeId × Value → H} {W : World} {base : Nat} {spare : Nat → Bool} {held : Bool} {r : Reach} {b0 : Nat} {v : Value} {d : DataW H} {p : List MemPlace}
    (hv : Value.okWide Try.prog W r b0 36 v) (h : DataW.Trod enc Try.prog W base spare held 36 v d p) :
    ∃ (a0 : Int) (A1 : Option Addr) (n1 c1 : Nat) (xs1 : List GateV), v = circuitV a0 A1 n1 c1 ∧ I64 a0 ∧ (Rd gateE W A1 xs1 ∧ xs1.length = n1 ∧ n1 ≤ maxLen) := by
  obtain ⟨f0, f1, hs, ho, t0, t1⟩ := fieldsCircuit
  obtain ⟨v0, v1, y0, y1, n, rfl, _, _, h0, h1⟩ := open_agg2 hs ho cellsCircuit hv h
  rw [t0] at h0
  obtain ⟨a0, e0, _, w0⟩ := DataW.trod_int Try.underlying3 h0
  simp only [List.cons.injEq, and_true] at e0
  subst e0
  rw [t1] at h1
  obtain ⟨A1, n1, c1, xs1, rfl, r1⟩ := sliceGate h1
  exact ⟨a0, A1, n1, c1, xs1, rfl, bounds_i64 w0, r1⟩
end Go.Proofs.Ytofclfgaekjonaa.C4
namespace Go.Proofs.Ytofclfgaekjonaa.RM
/-- the four coefficients lie within the limit -/
def vr (a b c d : Int) : Bool := decide ((-1000000000 ≤ a ∧ a ≤ 1000000000) ∧ (-1000000000 ≤ b ∧ b ≤ 1000000000) ∧ (-1000000000 ≤ c ∧ c ≤ 1000000000) ∧ (-1000000000 ≤ d ∧ d ≤ 1000000000))
theorem vr_iff {a b c d : Int} : vr a b c d = true ↔ (-1000000000 ≤ a ∧ a ≤ 1000000000) ∧ (-1000000000 ≤ b ∧ b ≤ 1000000000) ∧ (-1000000000 ≤ c ∧ c ≤ 1000000000) ∧ (-1000000000 ≤ d ∧ d ≤ 1000000000) := by
  unfold vr; simp
theorem mul_bd {a b : Int} (ha : -1000000000 ≤ a ∧ a ≤ 1000000000) (hb : -1000000000 ≤ b ∧ b ≤ 1000000000) : -1000000000000000000 ≤ a * b ∧ a * b ≤ 1000000000000000000 := by
  have h1 : a.natAbs ≤ 1000000000 := by omega
  have h2 : b.natAbs ≤ 1000000000 := by omega
  have h3 := Nat.mul_le_mul h1 h2
  rw [← Int.natAbs_mul] at h3
  omega
end Go.Proofs.Ytofclfgaekjonaa.RM
namespace Go.Proofs.Ytofclfgaekjonaa
open Go.RowKit RM
set_option linter.unusedVariables false

/-- behind a call: the old cells and marks read as before, nothing has gone -/
theorem bcell {W w1 : World} (hb : Below W.heap.size W w1) : (∀ b o, b < W.heap.size → w1.cell? ⟨b, o, none⟩ = W.cell? ⟨b, o, none⟩) ∧ (∀ b o, b < W.heap.size → w1.frozen? ⟨b, o, none⟩ = W.frozen? ⟨b, o, none⟩) ∧ W.heap.size ≤ w1.heap.size :=
  ⟨fun b o h => hb.cell (p := ⟨b, o, none⟩) h, fun b o h => hb.frozen (p := ⟨b, o, none⟩) h, hb.size⟩
theorem chain {B C : Nat} {w a b : World} (h : Below B w a) (k : Below C a b) (hB : B ≤ C) : Below B w b := h.trans (k.mono hB)
/-- a fact kept from the walk -/
theorem hid {p : Prop} (h : p) : Hid p := h
/-- the value of a number of the ring -/
abbrev rg (a b c d : Int) : Value := .agg #[.int .i64 a, .int .i64 b, .int .i64 c, .int .i64 d]

/-- an array of four numbers, read at an index that is known -/
theorem ix (a b c d : Int) (w : World) : (Instr.index 195 (rg a b c d) (.int .i64 0)).run Try.prog w = .ok (.int .i64 a) w ∧ (Instr.index 195 (rg a b c d) (.int .i64 1)).run Try.prog w = .ok (.int .i64 b) w
    ∧ (Instr.index 195 (rg a b c d) (.int .i64 2)).run Try.prog w = .ok (.int .i64 c) w ∧ (Instr.index 195 (rg a b c d) (.int .i64 3)).run Try.prog w = .ok (.int .i64 d) w :=
  ⟨by kernel_rfl, by kernel_rfl, by kernel_rfl, by kernel_rfl⟩

set_option maxRecDepth 100000 in
set_option maxHeartbeats 1000000 in
theorem iv_t (a b c d : Int) (w : World) (h : vr a b c d = true) :
    Calls Try.prog 172 #[rg a b c d] w fun e w' => e = .returned (.bool true) ∧ Below w.heap.size w w' := by
  obtain ⟨⟨a1, a2⟩, ⟨b1, b2⟩, ⟨c1, c2⟩, ⟨d1, d2⟩⟩ := vr_iff.1 h
  clear h
  have i0 := fun w => (ix a b c d w).1
  have i1 := fun w => (ix a b c d w).2.1
  have i2 := fun w => (ix a b c d w).2.2.1
  have i3 := fun w => (ix a b c d w).2.2.2
  go_enter Try.func172, Try.ntmps172
  go_wp2
  go_rounds 5
  go_ret
  exact ⟨rfl, by go_grown⟩

set_option maxRecDepth 100000 in
set_option maxHeartbeats 1000000 in
theorem iv_f (a b c d : Int) (w : World) (h : vr a b c d = false) :
    Calls Try.prog 172 #[rg a b c d] w fun e w' => e = .returned (.bool false) ∧ Below w.heap.size w w' := by
  have hn : ¬ _ := fun k => by rw [vr_iff.2 k] at h; cases h
  clear h
  have HN := hid hn
  clear hn
  have i0 := fun w => (ix a b c d w).1
  have i1 := fun w => (ix a b c d w).2.1
  have i2 := fun w => (ix a b c d w).2.2.1
  have i3 := fun w => (ix a b c d w).2.2.2
  go_enter Try.func172, Try.ntmps172
  go_wp2
  go_rounds 5
  all_goals (go_ret; refine ⟨?_, by go_grown⟩)
  all_goals (first | rfl | (exact absurd ⟨⟨by omega, by omega⟩, ⟨by omega, by omega⟩, ⟨by omega, by omega⟩, ⟨by omega, by omega⟩⟩ HN.out))

set_option maxRecDepth 100000 in
set_option maxHeartbeats 1000000 in
theorem lg_t (a b c d : Int) (w : World) (h : vr a b c d = true) :
    Calls Try.prog 155 #[rg a b c d] w fun e w' => e = .returned (.bool true) ∧ Below w.heap.size w w' := by
  obtain ⟨⟨a1, a2⟩, ⟨b1, b2⟩, ⟨c1, c2⟩, ⟨d1, d2⟩⟩ := vr_iff.1 h
  clear h
  go_enter Try.func155, Try.ntmps155
  go_wp2
  go_rounds 5
  go_ret
  exact ⟨rfl, by go_grown⟩

set_option maxRecDepth 100000 in
set_option maxHeartbeats 1000000 in
theorem lg_f (a b c d : Int) (w : World) (h : vr a b c d = false) :
    Calls Try.prog 155 #[rg a b c d] w fun e w' => e = .returned (.bool false) ∧ Below w.heap.size w w' := by
  have hn : ¬ _ := fun k => by rw [vr_iff.2 k] at h; cases h
  clear h
  have HN := hid hn
  clear hn
  go_enter Try.func155, Try.ntmps155
  go_wp2
  go_rounds 5
  all_goals (go_ret; refine ⟨?_, by go_grown⟩)
  all_goals (first | rfl | (exfalso; refine HN.out ?_; simp only [Bool.not_eq_false', decide_eq_true_eq] at *; exact ⟨⟨by omega, by omega⟩, ⟨by omega, by omega⟩, ⟨by omega, by omega⟩, ⟨by omega, by omega⟩⟩))
end Go.Proofs.Ytofclfgaekjonaa
namespace Go.Proofs.Ytofclfgaekjonaa
open Go.RowKit RM
set_option linter.unusedVariables false
set_option linter.unusedSimpArgs false
/-- a number of the ring and whether there is one -/
abbrev rt (a b c d : Int) (ok : Bool) : Value := .tuple #[rg a b c d, .bool ok]

end Go.Proofs.Ytofclfgaekjonaa
namespace Go.Proofs.Ytofclfgaekjonaa
open Go.RowKit RM
set_option linter.unusedVariables false
set_option linter.unusedSimpArgs false

set_option maxRecDepth 100000 in
set_option maxHeartbeats 1000000 in
theorem ro_t (a b c d : Int) (w : World) (h : vr a b c d = true) :
    Calls Try.prog 178 #[rg a b c d] w fun e w' => e = .returned (rt a b c d true) ∧ Below w.heap.size w w' := by
  have H := hid h
  clear h
  go_enter Try.func178, Try.ntmps178
  go_wp2_with (first | (go_at_call 172; ((with_reducible refine (iv_t _ _ _ _ _ H.out).mono ?_); rintro e w1 ⟨rfl, hb1⟩; obtain ⟨hc1, hf1, _⟩ := bcell hb1; have hz1 := hb1.size; try simp at hz1; try have hx10 : w.heap.size < w1.heap.size := by omega; try have hx11 : w.heap.size + 1 < w1.heap.size := by omega; try have hx12 : w.heap.size + 1 + 1 < w1.heap.size := by omega; try have hx13 : w.heap.size + 1 + 1 + 1 < w1.heap.size := by omega)) | go_in)
  refine bodyPost_ret (v := rt a b c d true) (by simp [results, Try.results178, go_sem, *]) rfl ⟨rfl, ?_⟩
  repeat' (first | (with_reducible exact Below.refl _ _) | (with_reducible refine Below.alloc ?_ ?_ _) | (with_reducible refine Below.drew ?_) | (with_reducible refine Below.setCell ?_ ?_ _) | (with_reducible refine chain ?_ (by assumption) ?_) | omega | (simp; done) | (simp; omega))

set_option maxRecDepth 100000 in
set_option maxHeartbeats 1000000 in
theorem ro_f (a b c d : Int) (w : World) (h : vr a b c d = false) :
    Calls Try.prog 178 #[rg a b c d] w fun e w' => e = .returned (rt 0 0 0 0 false) ∧ Below w.heap.size w w' := by
  have H := hid h
  clear h
  go_enter Try.func178, Try.ntmps178
  go_wp2_with (first | (go_at_call 172; ((with_reducible refine (iv_f _ _ _ _ _ H.out).mono ?_); rintro e w1 ⟨rfl, hb1⟩; obtain ⟨hc1, hf1, _⟩ := bcell hb1; have hz1 := hb1.size; try simp at hz1; try have hx10 : w.heap.size < w1.heap.size := by omega; try have hx11 : w.heap.size + 1 < w1.heap.size := by omega; try have hx12 : w.heap.size + 1 + 1 < w1.heap.size := by omega; try have hx13 : w.heap.size + 1 + 1 + 1 < w1.heap.size := by omega)) | go_in)
  refine bodyPost_ret (v := rt 0 0 0 0 false) (by simp [results, Try.results178, go_sem, *]) rfl ⟨rfl, ?_⟩
  repeat' (first | (with_reducible exact Below.refl _ _) | (with_reducible refine Below.alloc ?_ ?_ _) | (with_reducible refine Below.drew ?_) | (with_reducible refine Below.setCell ?_ ?_ _) | (with_reducible refine chain ?_ (by assumption) ?_) | omega | (simp; done) | (simp; omega))

set_option maxRecDepth 100000 in
set_option maxHeartbeats 1000000 in
theorem co (a b c d : Int) (w : World) :
    Calls Try.prog 180 #[rg a b c d] w fun e w' => e = .returned (rg a b c d) ∧ Below w.heap.size w w' := by
  go_enter Try.func180, Try.ntmps180
  go_wp2_with (first | go_in)
  refine bodyPost_ret (v := rg a b c d) (by simp [results, Try.results180, go_sem, *]) rfl ⟨rfl, ?_⟩
  repeat' (first | (with_reducible exact Below.refl _ _) | (with_reducible refine Below.alloc ?_ ?_ _) | (with_reducible refine Below.drew ?_) | (with_reducible refine Below.setCell ?_ ?_ _) | (with_reducible refine chain ?_ (by assumption) ?_) | omega | (simp; done) | (simp; omega))

/-- the coefficients of a product -/
abbrev m0 (a b c d p q r s : Int) : Int := a * p - b * s - c * r - d * q
abbrev m1 (a b c d p q r s : Int) : Int := a * q + b * p - c * s - d * r
abbrev m2 (a b c d p q r s : Int) : Int := a * r + b * q + c * p - d * s
abbrev m3 (a b c d p q r s : Int) : Int := a * s + b * r + c * q + d * p

set_option maxRecDepth 100000 in
set_option maxHeartbeats 4000000 in
theorem mc (a b c d p q r s : Int) (w : World) (hx : vr a b c d = true) (hy : vr p q r s = true) :
    Calls Try.prog 179 #[rg a b c d, rg p q r s] w fun e w' => e = .returned (rg (m0 a b c d p q r s) (m1 a b c d p q r s) (m2 a b c d p q r s) (m3 a b c d p q r s)) ∧ Below w.heap.size w w' := by
  obtain ⟨ha, hb, hc, hd⟩ := vr_iff.1 hx
  obtain ⟨hp, hq, hr, hs⟩ := vr_iff.1 hy
  obtain ⟨ap1, ap2⟩ := mul_bd ha hp
  obtain ⟨aq1, aq2⟩ := mul_bd ha hq
  obtain ⟨ar1, ar2⟩ := mul_bd ha hr
  obtain ⟨as1, as2⟩ := mul_bd ha hs
  obtain ⟨bp1, bp2⟩ := mul_bd hb hp
  obtain ⟨bq1, bq2⟩ := mul_bd hb hq
  obtain ⟨br1, br2⟩ := mul_bd hb hr
  obtain ⟨bs1, bs2⟩ := mul_bd hb hs
  obtain ⟨cp1, cp2⟩ := mul_bd hc hp
  obtain ⟨cq1, cq2⟩ := mul_bd hc hq
  obtain ⟨cr1, cr2⟩ := mul_bd hc hr
  obtain ⟨cs1, cs2⟩ := mul_bd hc hs
  obtain ⟨dp1, dp2⟩ := mul_bd hd hp
  obtain ⟨dq1, dq2⟩ := mul_bd hd hq
  obtain ⟨dr1, dr2⟩ := mul_bd hd hr
  obtain ⟨ds1, ds2⟩ := mul_bd hd hs
  clear hx hy ha hb hc hd hp hq hr hs
  have i0 := fun w => (ix a b c d w).1
  have i1 := fun w => (ix a b c d w).2.1
  have i2 := fun w => (ix a b c d w).2.2.1
  have i3 := fun w => (ix a b c d w).2.2.2
  have j0 := fun w => (ix p q r s w).1
  have j1 := fun w => (ix p q r s w).2.1
  have j2 := fun w => (ix p q r s w).2.2.1
  have j3 := fun w => (ix p q r s w).2.2.2
  go_enter Try.func179, Try.ntmps179
  go_wp2
  refine wp_loop_rounds 5 ?_
  rw [rounds_succ]; go_wp2
  refine wp_loop_rounds 5 ?_
  rw [rounds_succ]; go_wp2
  rw [rounds_succ]; go_wp2
  rw [rounds_succ]; go_wp2
  rw [rounds_succ]; go_wp2
  rw [rounds_succ]; go_wp2
  rw [rounds_succ]; go_wp2
  refine wp_loop_rounds 5 ?_
  rw [rounds_succ]; go_wp2
  rw [rounds_succ]; go_wp2
  rw [rounds_succ]; go_wp2
  rw [rounds_succ]; go_wp2
  rw [rounds_succ]; go_wp2
  rw [rounds_succ]; go_wp2
  refine wp_loop_rounds 5 ?_
  rw [rounds_succ]; go_wp2
  rw [rounds_succ]; go_wp2
  rw [rounds_succ]; go_wp2
  rw [rounds_succ]; go_wp2
  rw [rounds_succ]; go_wp2
  rw [rounds_succ]; go_wp2
  refine wp_loop_rounds 5 ?_
  rw [rounds_succ]; go_wp2
  rw [rounds_succ]; go_wp2
  rw [rounds_succ]; go_wp2
  rw [rounds_succ]; go_wp2
  rw [rounds_succ]; go_wp2
  rw [rounds_succ]; go_wp2
  refine bodyPost_ret (v := rg (m0 a b c d p q r s) (m1 a b c d p q r s) (m2 a b c d p q r s) (m3 a b c d p q r s)) (by simp [results, Try.results179, go_sem, *]) rfl ⟨rfl, ?_⟩
  repeat' (first | (with_reducible exact Below.refl _ _) | (with_reducible refine Below.alloc ?_ ?_ _) | (with_reducible refine Below.drew ?_) | (with_reducible refine Below.setCell ?_ ?_ _) | (with_reducible refine chain ?_ (by assumption) ?_) | omega | (simp; done) | (simp; omega))
end Go.Proofs.Ytofclfgaekjonaa
namespace Go.Proofs.Ytofclfgaekjonaa
open Go.RowKit
theorem bcell_drew {W w1 : World} (hb : Below W.drew.heap.size W.drew w1) : (∀ b o, b < W.heap.size → w1.cell? ⟨b, o, none⟩ = W.cell? ⟨b, o, none⟩) ∧ (∀ b o, b < W.heap.size → w1.frozen? ⟨b, o, none⟩ = W.frozen? ⟨b, o, none⟩) ∧ W.heap.size ≤ w1.heap.size :=
  bcell (W := W.drew) hb
end Go.Proofs.Ytofclfgaekjonaa
