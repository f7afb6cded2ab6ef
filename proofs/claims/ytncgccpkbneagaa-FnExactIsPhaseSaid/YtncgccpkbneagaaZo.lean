/- QGv, QRdC, Oa, Ob, Oc, Od, Oe, Of, LwOp, StEq, Eq, Ph1, Ph2, Ph3, Ia, Ib, LwIp -/
import Derived.Test.YtncgccpkbneagaaZq
import Derived.Test.YtncgccpkbneagaaRows
import Derived.ProofKit
import Derived.OpenShut
import Derived.ShutString
import Derived.ChangeOld
import Derived.Below
import Derived.Lib.SmallJoins
import Derived.Deep.Slices
import Derived.Deep.Strs
import Derived.DataReads
import Derived.Test.YtncgccpkbneagaaZlg
import Derived.Test.YtncgccpkbneagaaZmu
import Derived.Test.YtncgccpkbneagaaZgj
import Derived.Test.YtncgccpkbneagaaBad
import Derived.Test.YtncgccpkbneagaaIdn
import Derived.Test.YtncgccpkbneagaaZar
import Derived.Test.YtncgccpkbneagaaVm2
import Derived.Test.YtncgccpkbneagaaZtab
import Derived.Test.YtncgccpkbneagaaZls
import Derived.Test.YtncgccpkbneagaaZmx
import Derived.ChangeKeysEq
import Derived.BigQuiet
import Derived.Deep.QuietTactic
import Derived.Deep.LoopGhost
import Derived.Test.YtncgccpkbneagaaTu
import Derived.Test.YtncgccpkbneagaaZbx
import Derived.Test.YtncgccpkbneagaaZcol
import Derived.Test.YtncgccpkbneagaaRgx
namespace Go.Proofs.Ytncgccpkbneagaa.C4
open Go.RowKit
set_option linter.unusedVariables false
set_option linter.unusedSimpArgs false
attribute [local irreducible] World.setCell

/-- a valid circuit of n gates -/
def okC (q : Int) (n : Nat) (xs : List GateV) : Bool := inB q 1 5 && decide (n ≤ 400) && xs.all (gB q)
theorem okC_q {q : Int} {n : Nat} {xs : List GateV} (h : inB q 1 5 = false) : okC q n xs = false := by unfold okC; rw [h]; rfl
theorem okC_n {q : Int} {n : Nat} {xs : List GateV} (h : 400 < n) : okC q n xs = false := by
  unfold okC; rw [decide_eq_false (by omega)]; simp
theorem okC_l {q : Int} {n : Nat} {xs : List GateV} (h : inB q 1 5 = true) (h2 : n ≤ 400) : okC q n xs = xs.all (gB q) := by
  unfold okC; rw [h, decide_eq_true h2]; rfl
theorem okC_iff {q : Int} {n : Nat} {xs : List GateV} : okC q n xs = true ↔ 1 ≤ q ∧ q ≤ 5 ∧ n ≤ 400 ∧ ∀ (i : Nat) (g : GateV), xs[i]? = some g → gB q g = true := by
  unfold okC
  simp only [Bool.and_eq_true, inB_iff, decide_eq_true_eq, List.all_eq_true]
  constructor
  · rintro ⟨⟨⟨h1, h2⟩, h3⟩, h4⟩
    exact ⟨h1, h2, h3, fun i g hg => h4 g (List.mem_of_getElem? hg)⟩
  · rintro ⟨h1, h2, h3, h4⟩
    refine ⟨⟨⟨h1, h2⟩, h3⟩, fun g hg => ?_⟩
    obtain ⟨i, hi, he⟩ := List.getElem_of_mem hg
    exact h4 i g (by rw [List.getElem?_eq_getElem hi, he])
theorem all_at {q : Int} {xs : List GateV} {j : Nat} {x : GateV} (hx : xs[j]? = some x) (h : gB q x = false) : xs.all (gB q) = false := by
  rw [List.all_eq_false]
  exact ⟨x, List.mem_of_getElem? hx, by rw [h]; decide⟩
theorem all_of {q : Int} {xs : List GateV} (h : ∀ (i : Nat) (g : GateV), xs[i]? = some g → gB q g = true) : xs.all (gB q) = true := by
  rw [List.all_eq_true]
  intro g hg
  obtain ⟨i, hi, he⟩ := List.getElem_of_mem hg
  exact h i g (by rw [List.getElem?_eq_getElem hi, he])
set_option maxRecDepth 100000 in
set_option maxHeartbeats 4000000 in
theorem vcs {a0 : Int} {A1 : Option Addr} {n1 c1 : Nat} {xs : List GateV} {t : Bool} {w : World} (h : okC a0 n1 xs = t) (hA : Rd gateE w A1 xs) (hn : xs.length = n1) (hm : n1 ≤ maxLen) :
    Calls Try.prog 100 #[circuitV a0 A1 n1 c1] w fun ee w' => ee = .returned (.bool t) ∧ Below w.heap.size w w' := by
  have hu : n1 ≤ 9223372036854775807 := by unfold maxLen at hm; omega
  cases hq : inB a0 1 5
  · have HT : Hid (false = t) := by rw [← h, okC_q hq]; rfl
    have HQ := lay hq
    clear h hA hn hq
    go_enter Try.func100, Try.ntmps100
    go_wp2_with ((go_at_call 93; ((with_reducible refine (lin HQ.out _).mono ?_); rintro ee w1 ⟨rfl, rfl⟩)))
    go_ret
    refine ⟨ret_bool HT.out, ?_⟩
    (repeat' (first | (with_reducible exact Below.refl _ _) | (with_reducible assumption) | (with_reducible refine Below.alloc ?_ ?_ _) | (with_reducible refine Below.drew ?_) | (with_reducible refine bdN ?_ _) | (with_reducible refine Below.setCell ?_ ?_ _) | (with_reducible refine chn ?_ (by assumption) ?_) | omega | (simp; done) | (simp; omega)))
  by_cases h4 : 400 < n1
  · have HT : Hid (false = t) := by rw [← h, okC_n h4]; rfl
    have HQ := lay hq
    have h5 : (400 : Int) < (n1 : Int) := by omega
    clear h hA hn hq
    go_enter Try.func100, Try.ntmps100
    go_wp2_with ((go_at_call 93; ((with_reducible refine (lin HQ.out _).mono ?_); rintro ee w1 ⟨rfl, rfl⟩)))
    go_ret
    refine ⟨ret_bool HT.out, ?_⟩
    (repeat' (first | (with_reducible exact Below.refl _ _) | (with_reducible assumption) | (with_reducible refine Below.alloc ?_ ?_ _) | (with_reducible refine Below.drew ?_) | (with_reducible refine bdN ?_ _) | (with_reducible refine Below.setCell ?_ ?_ _) | (with_reducible refine chn ?_ (by assumption) ?_) | omega | (simp; done) | (simp; omega)))
  rw [okC_l hq (by omega)] at h
  obtain ⟨q1, q5⟩ := inB_iff.1 hq
  have hb : n1 ≤ 400 := by omega
  have h6 : ¬ ((400 : Int) < (n1 : Int)) := by omega
  have HT := lay h
  have HQ := lay hq
  have HA := lay hA
  have HN := lay hn
  clear h hA hn hq
  go_enter Try.func100, Try.ntmps100
  go_wp2_with (first | (go_at_call 93; ((with_reducible refine (lin HQ.out _).mono ?_); rintro ee w1 ⟨rfl, rfl⟩)) | fail)
  go_loopg [18] n1 (fun k s1 wr => ∃ j : Nat, j + k = n1 ∧ s1 = .int .i64 (j : Int) ∧ Hid (∀ (i : Nat) (g : GateV), i < j → xs[i]? = some g → gB a0 g = true) ∧ Hid (Bb wr (w.heap.size) 69 #[.int .i64 a0, .slice A1 n1 c1]) ∧ Below w.heap.size w wr)
  case atStart => exact ⟨0, by omega, rfl, fun i g hi => absurd hi (Nat.not_lt_zero i), (by show Bb _ _ _ _; (repeat' (first | (with_reducible assumption) | (refine Bb.new (by first | (with_reducible rfl) | (simp; done))) | (with_reducible refine Bb.alloc ?_ _) | (with_reducible refine Bb.drew ?_) | (with_reducible refine Bb.drewN ?_ _) | (with_reducible refine Bb.mono ?_ (by assumption)) | (with_reducible refine Bb.far ?_ (by (try simp only [World.size_alloc, World.size_drew]); omega)) | (with_reducible refine Bb.set ?_ rfl) | (with_reducible refine Bb.grown ?_ (by assumption) (by assumption))))), by (repeat' (first | (with_reducible exact Below.refl _ _) | (with_reducible assumption) | (with_reducible refine Below.alloc ?_ ?_ _) | (with_reducible refine Below.drew ?_) | (with_reducible refine bdN ?_ _) | (with_reducible refine Below.setCell ?_ ?_ _) | (with_reducible refine chn ?_ (by assumption) ?_) | omega | (simp; done) | (simp; omega)))⟩
  case round =>
    obtain ⟨j, hj, rfl, HJ, Xa, hB⟩ := hrel
    have hBz := hB.size
    have ca0 := Xa.out.c 0 rfl
    have ca1 := Xa.out.c 1 rfl
    have la := Xa.out.lt
    cases gk with
    | zero =>
      obtain rfl : j = n1 := by omega
      have HH : Hid (true = t) := by rw [← HT.out]; exact (all_of (fun i g hg => HJ.out i g (by have := (List.getElem?_eq_some_iff.1 hg).1; rw [HN.out] at this; exact this) hg)).symm
      go_wp2_with (fail)
      go_ret
      exact ⟨ret_bool HH.out, hB⟩
    | succ m =>
      have hlt : j < n1 := by omega
      obtain ⟨x, hx⟩ : ∃ x, xs[j]? = some x := ⟨_, List.getElem?_eq_getElem (by rw [HN.out]; exact hlt)⟩
      obtain ⟨g, o, rfl, hgw, hC⟩ := HA.out.atGate hx
      have hC' : wr.cell? ⟨g, o + j * 3, none⟩ = some (.int .i64 x.f0) ∧ wr.cell? ⟨g, o + j * 3 + 1, none⟩ = some (.int .i64 x.f1) ∧ wr.cell? ⟨g, o + j * 3 + 2, none⟩ = some (.int .i64 x.f2) := ⟨(World.cell?_of_block (hB.block g hgw)).trans hC.1, (World.cell?_of_block (hB.block g hgw)).trans hC.2.1, (World.cell?_of_block (hB.block g hgw)).trans hC.2.2⟩
      obtain ⟨q0, q1', q2⟩ := hC'
      clear hC
      have HX := lay hx
      clear hx
      cases hk : gB a0 x
      · have HK := lay hk
        have HH : Hid (false = t) := by rw [← HT.out]; exact (all_at HX.out (by exact HK.out)).symm
        clear hk
        go_wp2_with ((go_at_call 94; ((with_reducible refine (lg HK.out q1 q5 _).mono ?_); rintro ee w4 ⟨rfl, hb4⟩)))
        go_ret
        refine ⟨ret_bool HH.out, ?_⟩
        (repeat' (first | (with_reducible exact Below.refl _ _) | (with_reducible assumption) | (with_reducible refine Below.alloc ?_ ?_ _) | (with_reducible refine Below.drew ?_) | (with_reducible refine bdN ?_ _) | (with_reducible refine Below.setCell ?_ ?_ _) | (with_reducible refine chn ?_ (by assumption) ?_) | omega | (simp; done) | (simp; omega)))
      · have HK := lay hk
        clear hk
        go_wp2_with ((go_at_call 94; ((with_reducible refine (lg HK.out q1 q5 _).mono ?_); rintro ee w4 ⟨rfl, hb4⟩)))
        have hW : Below wr.heap.size wr w4 := by (repeat' (first | (with_reducible exact Below.refl _ _) | (with_reducible assumption) | (with_reducible refine Below.alloc ?_ ?_ _) | (with_reducible refine Below.drew ?_) | (with_reducible refine bdN ?_ _) | (with_reducible refine Below.setCell ?_ ?_ _) | (with_reducible refine chn ?_ (by assumption) ?_) | omega | (simp; done) | (simp; omega)))
        go_roundg m
        case measure => omega
        case rel =>
          refine ⟨j + 1, by omega, by go_num, fun i g hi hg => ?_, Xa.out.mono hW, ?_⟩
          · by_cases e : i = j
            · subst e; rw [HX.out] at hg; cases hg; exact HK.out
            · exact HJ.out i g (by omega) hg
          · exact chn hB hW hB.size

set_option maxRecDepth 100000 in
set_option maxHeartbeats 4000000 in
theorem vci {a0 : Int} {A1 : Option Addr} {n1 c1 : Nat} {xs : List GateV} {t : Bool} {w : World} (h : okC a0 n1 xs = t) (hA : Rd gateE w A1 xs) (hn : xs.length = n1) (hm : n1 ≤ maxLen) :
    Calls Try.prog 103 #[circuitV a0 A1 n1 c1] w fun ee w' => ee = .returned (.bool t) ∧ Below w.heap.size w w' := by
  have hu : n1 ≤ 9223372036854775807 := by unfold maxLen at hm; omega
  cases hq : inB a0 1 5
  · have HT : Hid (false = t) := by rw [← h, okC_q hq]; rfl
    have HQ := lay hq
    clear h hA hn hq
    go_enter Try.func103, Try.ntmps103
    go_wp2_with ((go_at_call 139; ((with_reducible refine (iqc HQ.out _).mono ?_); rintro ee w1 ⟨rfl, rfl⟩)))
    go_ret
    refine ⟨ret_bool HT.out, ?_⟩
    (repeat' (first | (with_reducible exact Below.refl _ _) | (with_reducible assumption) | (with_reducible refine Below.alloc ?_ ?_ _) | (with_reducible refine Below.drew ?_) | (with_reducible refine bdN ?_ _) | (with_reducible refine Below.setCell ?_ ?_ _) | (with_reducible refine chn ?_ (by assumption) ?_) | omega | (simp; done) | (simp; omega)))
  by_cases h4 : 400 < n1
  · have HT : Hid (false = t) := by rw [← h, okC_n h4]; rfl
    have HQ := lay hq
    have h5 : (400 : Int) < (n1 : Int) := by omega
    clear h hA hn hq
    go_enter Try.func103, Try.ntmps103
    go_wp2_with ((go_at_call 139; ((with_reducible refine (iqc HQ.out _).mono ?_); rintro ee w1 ⟨rfl, rfl⟩)))
    go_ret
    refine ⟨ret_bool HT.out, ?_⟩
    (repeat' (first | (with_reducible exact Below.refl _ _) | (with_reducible assumption) | (with_reducible refine Below.alloc ?_ ?_ _) | (with_reducible refine Below.drew ?_) | (with_reducible refine bdN ?_ _) | (with_reducible refine Below.setCell ?_ ?_ _) | (with_reducible refine chn ?_ (by assumption) ?_) | omega | (simp; done) | (simp; omega)))
  rw [okC_l hq (by omega)] at h
  obtain ⟨q1, q5⟩ := inB_iff.1 hq
  have hb : n1 ≤ 400 := by omega
  have h6 : ¬ ((400 : Int) < (n1 : Int)) := by omega
  have HT := lay h
  have HQ := lay hq
  have HA := lay hA
  have HN := lay hn
  clear h hA hn hq
  go_enter Try.func103, Try.ntmps103
  go_wp2_with (first | (go_at_call 139; ((with_reducible refine (iqc HQ.out _).mono ?_); rintro ee w1 ⟨rfl, rfl⟩)) | fail)
  go_loopg [18] n1 (fun k s1 wr => ∃ j : Nat, j + k = n1 ∧ s1 = .int .i64 (j : Int) ∧ Hid (∀ (i : Nat) (g : GateV), i < j → xs[i]? = some g → gB a0 g = true) ∧ Hid (Bb wr (w.heap.size) 69 #[.int .i64 a0, .slice A1 n1 c1]) ∧ Below w.heap.size w wr)
  case atStart => exact ⟨0, by omega, rfl, fun i g hi => absurd hi (Nat.not_lt_zero i), (by show Bb _ _ _ _; (repeat' (first | (with_reducible assumption) | (refine Bb.new (by first | (with_reducible rfl) | (simp; done))) | (with_reducible refine Bb.alloc ?_ _) | (with_reducible refine Bb.drew ?_) | (with_reducible refine Bb.drewN ?_ _) | (with_reducible refine Bb.mono ?_ (by assumption)) | (with_reducible refine Bb.far ?_ (by (try simp only [World.size_alloc, World.size_drew]); omega)) | (with_reducible refine Bb.set ?_ rfl) | (with_reducible refine Bb.grown ?_ (by assumption) (by assumption))))), by (repeat' (first | (with_reducible exact Below.refl _ _) | (with_reducible assumption) | (with_reducible refine Below.alloc ?_ ?_ _) | (with_reducible refine Below.drew ?_) | (with_reducible refine bdN ?_ _) | (with_reducible refine Below.setCell ?_ ?_ _) | (with_reducible refine chn ?_ (by assumption) ?_) | omega | (simp; done) | (simp; omega)))⟩
  case round =>
    obtain ⟨j, hj, rfl, HJ, Xa, hB⟩ := hrel
    have hBz := hB.size
    have ca0 := Xa.out.c 0 rfl
    have ca1 := Xa.out.c 1 rfl
    have la := Xa.out.lt
    cases gk with
    | zero =>
      obtain rfl : j = n1 := by omega
      have HH : Hid (true = t) := by rw [← HT.out]; exact (all_of (fun i g hg => HJ.out i g (by have := (List.getElem?_eq_some_iff.1 hg).1; rw [HN.out] at this; exact this) hg)).symm
      go_wp2_with (fail)
      go_ret
      exact ⟨ret_bool HH.out, hB⟩
    | succ m =>
      have hlt : j < n1 := by omega
      obtain ⟨x, hx⟩ : ∃ x, xs[j]? = some x := ⟨_, List.getElem?_eq_getElem (by rw [HN.out]; exact hlt)⟩
      obtain ⟨g, o, rfl, hgw, hC⟩ := HA.out.atGate hx
      have hC' : wr.cell? ⟨g, o + j * 3, none⟩ = some (.int .i64 x.f0) ∧ wr.cell? ⟨g, o + j * 3 + 1, none⟩ = some (.int .i64 x.f1) ∧ wr.cell? ⟨g, o + j * 3 + 2, none⟩ = some (.int .i64 x.f2) := ⟨(World.cell?_of_block (hB.block g hgw)).trans hC.1, (World.cell?_of_block (hB.block g hgw)).trans hC.2.1, (World.cell?_of_block (hB.block g hgw)).trans hC.2.2⟩
      obtain ⟨q0, q1', q2⟩ := hC'
      clear hC
      have HX := lay hx
      clear hx
      cases hk : vgB a0 x
      · have HK := lay hk
        have HH : Hid (false = t) := by rw [← HT.out]; exact (all_at HX.out (by have := HK.out; unfold vgB at this; rw [HQ.out] at this; exact this)).symm
        clear hk
        go_wp2_with ((go_at_call 96; ((with_reducible refine (ivg HK.out _).mono ?_); rintro ee w4 ⟨rfl, hb4⟩)))
        go_ret
        refine ⟨ret_bool HH.out, ?_⟩
        (repeat' (first | (with_reducible exact Below.refl _ _) | (with_reducible assumption) | (with_reducible refine Below.alloc ?_ ?_ _) | (with_reducible refine Below.drew ?_) | (with_reducible refine bdN ?_ _) | (with_reducible refine Below.setCell ?_ ?_ _) | (with_reducible refine chn ?_ (by assumption) ?_) | omega | (simp; done) | (simp; omega)))
      · have HK := lay hk
        clear hk
        go_wp2_with ((go_at_call 96; ((with_reducible refine (ivg HK.out _).mono ?_); rintro ee w4 ⟨rfl, hb4⟩)))
        have hW : Below wr.heap.size wr w4 := by (repeat' (first | (with_reducible exact Below.refl _ _) | (with_reducible assumption) | (with_reducible refine Below.alloc ?_ ?_ _) | (with_reducible refine Below.drew ?_) | (with_reducible refine bdN ?_ _) | (with_reducible refine Below.setCell ?_ ?_ _) | (with_reducible refine chn ?_ (by assumption) ?_) | omega | (simp; done) | (simp; omega)))
        go_roundg m
        case measure => omega
        case rel =>
          refine ⟨j + 1, by omega, by go_num, fun i g hi hg => ?_, Xa.out.mono hW, ?_⟩
          · by_cases e : i = j
            · subst e; rw [HX.out] at hg; cases hg; have := HK.out; unfold vgB at this; rw [HQ.out] at this; exact this
            · exact HJ.out i g (by omega) hg
          · exact chn hB hW hB.size

end Go.Proofs.Ytncgccpkbneagaa.C4
namespace Go.Proofs.Ytncgccpkbneagaa.C4
open Go.ChangeShapes Go.WideShapes Go.ChangeAt Go.RowKit Go.Joins Go.Deep
open Go.ChangeMaps (open_string shut_string)
set_option linter.unusedVariables false
set_option linter.unusedSimpArgs false

theorem cellsCircuit : Try.prog.cellsOf 64 = 2 := by kernel_rfl
set_option maxRecDepth 100000 in
theorem fieldsCircuit : ∃ f0 f1 : Field, Try.prog.underlying 64 = some (.struct #[f0, f1]) ∧ oneCellFields Try.prog #[f0, f1] = true ∧ f0.type = 3 ∧ f1.type = 62 := ⟨_, _, Try.underlying64, by kernel_rfl, rfl, rfl⟩
set_option maxRecDepth 100000 in
theorem argCircuit {H : Type} {enc : TypeId × Value → H} {W : World} {base : Nat} {spare : Nat → Bool} {held : Bool} {r : Reach} {b0 : Nat} {v : Value} {d : DataW H} {p : List MemPlace}
    (hv : Value.okWide Try.prog W r b0 64 v) (h : DataW.Trod enc Try.prog W base spare held 64 v d p) :
    ∃ (a0 : Int) (A1 : Option Addr) (n1 c1 : Nat) (xs1 : List GateV), v = circuitV a0 A1 n1 c1 ∧ I64 a0 ∧ (Rd gateE W A1 xs1 ∧ xs1.length = n1 ∧ n1 ≤ maxLen) := by
  obtain ⟨f0, f1, hs, ho, t0, t1⟩ := fieldsCircuit
  obtain ⟨v0, v1, y0, y1, n, rfl, _, _, h0, h1⟩ := open_agg2 hs ho cellsCircuit hv h
  rw [t0] at h0
  obtain ⟨a0, e0, _, w0⟩ := DataW.trod_int Try.underlying3 h0
  simp only [List.cons.injEq, and_true] at e0
  subst e0
  rw [t1] at h1
  obtain ⟨A1, n1, c1, xs1, rfl, r1⟩ := sliceGate h1
  exact ⟨a0, A1, n1, c1, xs1, rfl, bounds_i64 w0, r1⟩
end Go.Proofs.Ytncgccpkbneagaa.C4
namespace Go.Proofs.Ytncgccpkbneagaa
open Go.RowKit RM
set_option linter.unusedVariables false
set_option linter.unusedSimpArgs false
attribute [local irreducible] World.setCell

open GM
theorem cellC_ok17 : (allN 17 fun k => (cellC k).ok) = true := by decide +kernel
theorem one_le : (allN 9 fun k => allN 4 fun i => decide (one k i ≤ 16)) = true := by decide +kernel
theorem gS_le {n kd A B r c : Nat} (h : okG n kd A B) : gS n kd A B r c ≤ 16 := by
  obtain ⟨h1, h5, h3⟩ := h
  rcases h3 with ⟨k1, k8, hA, rfl⟩ | ⟨k9, k11, hA, hB, hne⟩ | ⟨rfl, rfl, rfl⟩
  · rw [gS_1 k1 k8]
    have b1 : bitS n r A ≤ 1 := by rcases bitS_01 (n := n) (c := r) (q := A) with h | h <;> omega
    have b2 : bitS n c A ≤ 1 := by rcases bitS_01 (n := n) (c := c) (q := A) with h | h <;> omega
    have := of_decide_eq_true (allN_get (allN_get one_le (k := kd) (by omega)) (k := 2 * bitS n r A + bitS n c A) (by omega))
    split <;> omega
  · have : kd = 9 ∨ kd = 10 ∨ kd = 11 := by omega
    rcases this with rfl | rfl | rfl
    · rw [gS_9]; (repeat' split) <;> omega
    · rw [gS_10]; (repeat' split) <;> omega
    · rw [gS_11]; (repeat' split) <;> omega
  · rw [gS_12]; split <;> omega
theorem gsF_ok {n D kd A B q : Nat} (h : okG n kd A B) : (gsF n D kd A B q).ok = true := allN_get cellC_ok17 (by have := gS_le (r := q / D) (c := q % D) h; omega)
/-- the matrix of a gate -/
def gmt (n D : Nat) (g : C4.GateV) : List D5 := tab (D * D) (gsF n D g.f0.toNat g.f1.toNat g.f2.toNat)
def stB (n D C : Nat) (g : C4.GateV) (xs : List D5) : Bool := anyB (D * C) (mmG D C (gmt n D g) xs)
def stF (n D C : Nat) (g : C4.GateV) (xs : List D5) : List D5 := tab (D * C) (mmF D C (gmt n D g) xs)
/-- gates applied one behind the other; none: a product failed -/
def apl (n D C : Nat) : List C4.GateV → List D5 → Option (List D5)
  | [], xs => some xs
  | g :: gs, xs => if stB n D C g xs then none else apl n D C gs (stF n D C g xs)
theorem apl_app {n D C : Nat} (hs : List C4.GateV) : ∀ (gs : List C4.GateV) (xs : List D5), apl n D C (gs ++ hs) xs = (apl n D C gs xs).bind (apl n D C hs) := by
  intro gs
  induction gs with
  | nil => intro xs; rfl
  | cons g gs ih =>
    intro xs
    show (if stB n D C g xs then none else apl n D C (gs ++ hs) (stF n D C g xs)) = (if stB n D C g xs then none else apl n D C gs (stF n D C g xs)).bind _
    split
    · rfl
    · exact ih _
theorem apl_take {n D C j : Nat} {gs : List C4.GateV} {g : C4.GateV} {xs ys : List D5} (hg : gs[j]? = some g) (h : apl n D C (gs.take j) xs = some ys) : apl n D C (gs.take (j + 1)) xs = if stB n D C g ys then none else some (stF n D C g ys) := by
  rw [List.take_add_one, hg, apl_app, h]
  show (if stB n D C g ys then none else apl n D C [] (stF n D C g ys)) = _
  rfl
theorem apl_none {n D C j : Nat} {gs : List C4.GateV} {xs : List D5} (h : apl n D C (gs.take j) xs = none) : apl n D C gs xs = none := by
  have := apl_app (n := n) (D := D) (C := C) (gs.drop j) (gs.take j) xs
  rw [List.take_append_drop, h] at this
  exact this
theorem getD_ok {xs : List D5} (h : allB xs = true) (q : Nat) : (xs.getD q z5).ok = true := by
  by_cases hq : q < xs.length
  · exact all_get h (get_of hq)
  · rw [List.getD_eq_getElem?_getD, List.getElem?_eq_none (by omega)]; exact z5_ok
theorem mmT_okk {ca cb : Nat} {xs ys : List D5} {i j : Nat} {z : Bool} (hx : allB xs = true) (hy : allB ys = true) : ∀ k, (mmT ca cb xs ys i j z k).1.ok = true := by
  intro k
  induction k with
  | zero => exact z5_ok
  | succ k ih =>
    show (if (mmT ca cb xs ys i j z k).2 then mmT ca cb xs ys i j z k else addS _ _ _).1.ok = true
    split
    · exact ih
    · exact addS_ok ih (mulS_ok (getD_ok hx _) (getD_ok hy _))
theorem okM_tab {R C N : Nat} {F : Nat → D5} (hR : dimB (R : Int) = true) (hC : dimB (C : Int) = true) (hN : N = R * C) (h : ∀ q, (F q).ok = true) : okM (R : Int) (C : Int) N (tab N F) = true :=
  okM_iff.2 ⟨hR, hC, by rw [hN]; simp, allB_tab (fun q _ => h q)⟩
theorem gmt_okM {n D : Nat} {g : C4.GateV} (hD : dimB (D : Int) = true) (h : okG n g.f0.toNat g.f1.toNat g.f2.toNat) : okM (D : Int) (D : Int) (D * D) (gmt n D g) = true := okM_tab hD hD rfl (fun q => gsF_ok h)
theorem stF_okM {n D C : Nat} {g : C4.GateV} {xs : List D5} (hD : dimB (D : Int) = true) (hC : dimB (C : Int) = true) (h : okG n g.f0.toNat g.f1.toNat g.f2.toNat) (hx : allB xs = true) : okM (D : Int) (C : Int) (D * C) (stF n D C g xs) = true :=
  okM_tab hD hC rfl (fun q => mmT_okk (okM_iff.1 (gmt_okM hD h)).2.2.2 hx _)
theorem stF_len {n D C : Nat} {g : C4.GateV} {xs : List D5} : (stF n D C g xs).length = D * C := tab_len _ _
theorem own5_head {W : World} {base : Nat} {t : TypeId} {v : Value} {xs : List D5} (h : Own5 W base t v xs) (hn : 0 < xs.length) : ∃ g cap, v = .slice (some ⟨g, 0, none⟩) xs.length cap ∧ Rd W (some ⟨g, 0, none⟩) xs ∧ base ≤ g := by
  obtain ⟨A, cp, hv, hR, hB⟩ := Own5.form h
  obtain ⟨-, h2⟩ := h
  rcases h2 with ⟨-, h3⟩ | ⟨g, cap, cur, h3, h4, -⟩
  · omega
  · rw [hv] at h3
    injection h3 with e1 e2 e3
    subst e1
    exact ⟨g, cp, hv, hR, h4⟩

end Go.Proofs.Ytncgccpkbneagaa
namespace Go.Proofs.Ytncgccpkbneagaa
open Go.RowKit RM
set_option linter.unusedVariables false
set_option linter.unusedSimpArgs false
attribute [local irreducible] World.setCell

open GM
set_option maxRecDepth 100000 in
set_option maxHeartbeats 8000000 in
theorem lgate2 {n D NN kd A B : Nat} {w : World} (hok : okG n kd A B) (hD : D = 2 ^ n) (hNN : NN = D * D) :
    Calls Try.prog 95 #[.int .i64 (n : Int), .agg #[.int .i64 (kd : Int), .int .i64 (A : Int), .int .i64 (B : Int)]] w fun ee w' => ∃ g9 cq : Nat, ee = .returned (mv (D : Int) (D : Int) (some ⟨g9, 0, none⟩) NN cq) ∧ Rd w' (some ⟨g9, 0, none⟩) (tab NN (gsF n D kd A B)) ∧ w.heap.size ≤ g9 ∧ Below w.heap.size w w' := by
  obtain ⟨i0, hi0, hu0, hu1, hu2⟩ := info_parts infoD
  obtain ⟨d2, d32, dw, dw2, dd⟩ := pow_dim hok.1 hok.2.1 hD
  have h5 : (n : Int) ≤ 5 := by have := hok.2.1; omega
  have nn5 : NN ≤ 1024 := by rw [hNN]; exact Nat.mul_le_mul d32 d32
  have HOK := hid hok
  have HD := hid hD
  have EN := hid hNN
  clear hok hD hNN dd
  go_enter Try.func95, Try.ntmps95
  go_wp2_with (fail)
  go_loopg [7] D (fun q s1 wr => ∃ (i : Nat) (v : Value) (zs : List D5), i + q = D ∧ s1 = .int .i64 (i : Int) ∧ Hid (Bx wr (w.heap.size) 59 #[.int .i64 (kd : Int), .int .i64 (A : Int), .int .i64 (B : Int)]) ∧ Hid (Bx wr (w.heap.size + 1) 26 #[.int .i64 0, .int .i64 0, .slice none 0 0]) ∧ Hid (Bx wr (w.heap.size + 1 + 1) 26 #[.int .i64 (D : Int), .int .i64 (D : Int), v]) ∧ Hid (Own5 wr (w.heap.size + 1 + 1 + 1) 37 v zs) ∧ Hid (zs = tab (i * D) (gsF n D kd A B)) ∧ w.heap.size + 1 + 1 + 1 ≤ wr.heap.size ∧ Below w.heap.size w wr)
  case atStart => exact ⟨0, .slice none 0 0, [], by omega, rfl, (by show Bx _ _ _ _; (repeat' (first | (with_reducible assumption) | (refine Bx.new (by first | (with_reducible rfl) | (simp; done))) | (with_reducible refine Bx.alloc ?_ _) | (with_reducible refine Bx.drew ?_) | (with_reducible refine Bx.drewN ?_ _) | (with_reducible refine Bx.mono ?_ (by assumption)) | (with_reducible refine Bx.badly ?_ (by assumption) (by omega)) | (with_reducible refine Bx.far ?_ (by (try simp only [World.size_alloc, World.size_drew]); omega)) | (with_reducible refine Bx.set ?_ rfl) | (with_reducible refine Bx.grown ?_ (by assumption) (by assumption))))), (by show Bx _ _ _ _; (repeat' (first | (with_reducible assumption) | (refine Bx.new (by first | (with_reducible rfl) | (simp; done))) | (with_reducible refine Bx.alloc ?_ _) | (with_reducible refine Bx.drew ?_) | (with_reducible refine Bx.drewN ?_ _) | (with_reducible refine Bx.mono ?_ (by assumption)) | (with_reducible refine Bx.badly ?_ (by assumption) (by omega)) | (with_reducible refine Bx.far ?_ (by (try simp only [World.size_alloc, World.size_drew]); omega)) | (with_reducible refine Bx.set ?_ rfl) | (with_reducible refine Bx.grown ?_ (by assumption) (by assumption))))), (by show Bx _ _ _ _; (repeat' (first | (with_reducible assumption) | (refine Bx.new (by first | (with_reducible rfl) | (simp; done))) | (with_reducible refine Bx.alloc ?_ _) | (with_reducible refine Bx.drew ?_) | (with_reducible refine Bx.drewN ?_ _) | (with_reducible refine Bx.mono ?_ (by assumption)) | (with_reducible refine Bx.badly ?_ (by assumption) (by omega)) | (with_reducible refine Bx.far ?_ (by (try simp only [World.size_alloc, World.size_drew]); omega)) | (with_reducible refine Bx.set ?_ rfl) | (with_reducible refine Bx.grown ?_ (by assumption) (by assumption))))), Own5.nil _ _ _, by show _ = _; rw [Nat.zero_mul]; rfl, by simp, by (repeat' (first | (with_reducible exact Below.refl _ _) | (with_reducible assumption) | (with_reducible refine Below.alloc ?_ ?_ _) | (with_reducible refine Below.drew ?_) | (with_reducible refine below_drewN ?_ _) | (with_reducible refine Below.setCell ?_ ?_ _) | (with_reducible refine chain ?_ (by assumption) ?_) | omega | (simp; done) | (simp; omega)))⟩
  case round =>
    obtain ⟨i, v, zs, hi, rfl, Xg, Xz, Xo, HOw, HZ, hsz, hB⟩ := hrel
    have cg0 := Xg.out.c 0 rfl
    have cg1 := Xg.out.c 1 rfl
    have cg2 := Xg.out.c 2 rfl
    have lg := Xg.out.lt
    have cz0 := Xz.out.c 0 rfl
    have cz1 := Xz.out.c 1 rfl
    have cz2 := Xz.out.c 2 rfl
    have lz := Xz.out.lt
    have fz := Xz.out.f
    have co0 := Xo.out.c 0 rfl
    have co1 := Xo.out.c 1 rfl
    have co2 := Xo.out.c 2 rfl
    have lo := Xo.out.lt
    have fo := Xo.out.f
    cases gk with
    | zero =>
      obtain rfl : i = D := by omega
      obtain ⟨g9, cq, hv, hRd, hBa⟩ := own5_head HOw.out (by rw [HZ.out, tab_len]; exact Nat.mul_pos (by omega) (by omega))
      rw [HZ.out, tab_len, ← EN.out] at hv
      subst hv
      rw [HZ.out, ← EN.out] at hRd
      have HBa := hid hBa
      have HRd := hid hRd
      clear hRd hBa
      have hBq := hB.size
      go_wp2_with (fail)
      refine bodyPost_ret (v := mv (i : Int) (i : Int) (some ⟨g9, 0, none⟩) NN cq) (by first | (simp [results, Try.results95, go_sem, *]; done) | (simp (disch := (first | omega | (simp; done) | (simp; omega))) [results, Try.results95, go_sem, *]; done) | (simp only [results, Try.results95]; go_simp; done)) rfl ⟨g9, cq, rfl, ?_, ?_, ?_⟩
      · (repeat' (first | exact HRd.out | refine Rd.far ?_ (fun a ha => by obtain rfl := Option.some.inj ha; have := HBa.out; show g9 ≠ w.heap.size + 1; omega) _))
      · have := HBa.out; omega
      · (repeat' (first | (with_reducible exact Below.refl _ _) | (with_reducible assumption) | (with_reducible refine Below.alloc ?_ ?_ _) | (with_reducible refine Below.drew ?_) | (with_reducible refine below_drewN ?_ _) | (with_reducible refine Below.setCell ?_ ?_ _) | (with_reducible refine chain ?_ (by assumption) ?_) | omega | (simp; done) | (simp; omega)))
    | succ m9 =>
      have hlti : i < D := by omega
      have i1 : (i : Int) < (D : Int) := by omega
      go_wp2_with (fail)
      go_loopg [8] D (fun q s1 wi => ∃ (j : Nat) (v : Value) (zs : List D5), j + q = D ∧ s1 = .int .i64 (j : Int) ∧ Hid (Bx wi (w.heap.size) 59 #[.int .i64 (kd : Int), .int .i64 (A : Int), .int .i64 (B : Int)]) ∧ Hid (Bx wi (w.heap.size + 1) 26 #[.int .i64 0, .int .i64 0, .slice none 0 0]) ∧ Hid (Bx wi (w.heap.size + 1 + 1) 26 #[.int .i64 (D : Int), .int .i64 (D : Int), v]) ∧ Hid (Own5 wi (w.heap.size + 1 + 1 + 1) 37 v zs) ∧ Hid (zs = tab (i * D + j) (gsF n D kd A B)) ∧ w.heap.size + 1 + 1 + 1 ≤ wi.heap.size ∧ Below w.heap.size w wi)
      case atStart => exact ⟨0, v, zs, by omega, rfl, Xg, Xz, Xo, HOw, by show _ = _; rw [Nat.add_zero]; exact HZ.out, hsz, hB⟩
      case round =>
        clear Xg lg cg0 cg1 cg2 Xz lz cz0 cz1 cz2 fz Xo lo co0 co1 co2 fo HOw HZ hsz hB
        obtain ⟨j, v, zs, hj, rfl, Xg, Xz, Xo, HOw, HZ, hsz, hB⟩ := hrel
        have cg0 := Xg.out.c 0 rfl
        have cg1 := Xg.out.c 1 rfl
        have cg2 := Xg.out.c 2 rfl
        have lg := Xg.out.lt
        have cz0 := Xz.out.c 0 rfl
        have cz1 := Xz.out.c 1 rfl
        have cz2 := Xz.out.c 2 rfl
        have lz := Xz.out.lt
        have fz := Xz.out.f
        have co0 := Xo.out.c 0 rfl
        have co1 := Xo.out.c 1 rfl
        have co2 := Xo.out.c 2 rfl
        have lo := Xo.out.lt
        have fo := Xo.out.f
        cases gk with
        | zero =>
          obtain rfl : j = D := by omega
          go_wp2_with (fail)
          go_roundg m9
          case measure => omega
          case rel =>
            refine ⟨i + 1, v, zs, by omega, by go_num, Xg, Xz, Xo, HOw, ?_, hsz, hB⟩
            show _ = _
            rw [Nat.add_mul, Nat.one_mul]; exact HZ.out
        | succ m2 =>
          have hltj : j < D := by omega
          have j1 : (j : Int) < (D : Int) := by omega
          have hBq := hB.size
          obtain ⟨t, t1, t2, t3, t4⟩ := row_at (i := i) EN.out hlti
          have hl : zs.length = t + j := by rw [HZ.out, tab_len, t4]
          have HL := hid hl
          have T4 := hid t4
          clear hl t1 t2 t4
          have hvl := World.ownsRow.lt HOw.out
          have neg : some (w.heap.size) ≠ v.ownBlock := fun e => by have := (hvl _ e.symm).1; omega
          have nez : some (w.heap.size + 1) ≠ v.ownBlock := fun e => by have := (hvl _ e.symm).1; omega
          have neo : some (w.heap.size + 1 + 1) ≠ v.ownBlock := fun e => by have := (hvl _ e.symm).1; omega
          have HVL := hid hvl
          clear hvl
          have hcell := fun W => lcell (w := W) (r := i) (c := j) HOK.out (by rw [← HD.out]; exact hlti) (by rw [← HD.out]; exact hltj)
          obtain ⟨x, hx⟩ : ∃ x, x = cellC (gS n kd A B i j) := ⟨_, rfl⟩
          rw [← hx] at hcell
          have HX := hid hx
          have HCELL := hid hcell
          clear hx hcell
          go_wp2_with (fail)
          have yco2 : wr.drew.cell? ⟨w.heap.size + 1 + 1, 2, none⟩ = some (v) := co2
          have ycg0 : wr.drew.cell? ⟨w.heap.size, 0, none⟩ = some (.int .i64 (kd : Int)) := cg0
          have ycg1 : wr.drew.cell? ⟨w.heap.size, 1, none⟩ = some (.int .i64 (A : Int)) := cg1
          have ycg2 : wr.drew.cell? ⟨w.heap.size, 2, none⟩ = some (.int .i64 (B : Int)) := cg2
          refine wp_region_x (fun w' => w'.cell? ⟨w.heap.size + 1 + 1, 2, none⟩ = some (v) ∧ w'.cell? ⟨w.heap.size, 0, none⟩ = some (.int .i64 (kd : Int)) ∧ w'.cell? ⟨w.heap.size, 1, none⟩ = some (.int .i64 (A : Int)) ∧ w'.cell? ⟨w.heap.size, 2, none⟩ = some (.int .i64 (B : Int))) 10 (by kernel_rfl) ⟨yco2, ycg0, ycg1, ycg2⟩ (fun hS0 => ?_)
          refine wpAnyX_take (i := 0) (oi := _) (v := ?_) rfl (by kernel_rfl) (by kernel_rfl) (by kernel_rfl) (by kernel_rfl) (fun _ _ _ h => h) (Or.inl ⟨by rfl, ?_⟩) hS0 ?_
          rotate_left 1
          · (intro w hSw; (try dsimp only at hSw); go_simp; (try with_reducible rfl))
          try simp only [Act.put, List.setIfInBounds_toArray, List.set_cons_zero, List.set_cons_succ]
          refine wpAnyX_take (i := 1) (oi := _) (v := ?_) rfl (by kernel_rfl) (by kernel_rfl) (by kernel_rfl) (by kernel_rfl) (fun _ _ _ h => h) (Or.inl ⟨by rfl, ?_⟩) hS0 ?_
          rotate_left 1
          · (intro w hSw; (try dsimp only at hSw); go_simp; (try with_reducible rfl))
          try simp only [Act.put, List.setIfInBounds_toArray, List.set_cons_zero, List.set_cons_succ]
          refine wpAnyX_take (i := 2) (oi := _) (v := ?_) rfl (by kernel_rfl) (by kernel_rfl) (by kernel_rfl) (by kernel_rfl) (fun _ _ _ h => h) (Or.inl ⟨by rfl, ?_⟩) hS0 ?_
          rotate_left 1
          · (intro w hSw; (try dsimp only at hSw); go_simp; (try with_reducible rfl))
          try simp only [Act.put, List.setIfInBounds_toArray, List.set_cons_zero, List.set_cons_succ]
          refine wpAnyX_take (i := 3) (oi := _) (v := ?_) rfl (by kernel_rfl) (by kernel_rfl) (by kernel_rfl) (by kernel_rfl) (fun _ _ _ h => h) (Or.inl ⟨by rfl, ?_⟩) hS0 ?_
          rotate_left 1
          · (intro w hSw; (try dsimp only at hSw); go_simp; (try with_reducible rfl))
          try simp only [Act.put, List.setIfInBounds_toArray, List.set_cons_zero, List.set_cons_succ]
          refine wpAnyX_take (i := 4) (oi := _) (v := ?_) rfl (by kernel_rfl) (by kernel_rfl) (by kernel_rfl) (by kernel_rfl) (fun _ _ _ h => h) (Or.inl ⟨by rfl, ?_⟩) hS0 ?_
          rotate_left 1
          · (intro w hSw; (try dsimp only at hSw); go_simp; (try with_reducible rfl))
          try simp only [Act.put, List.setIfInBounds_toArray, List.set_cons_zero, List.set_cons_succ]
          refine wpAnyX_take (i := 5) (oi := _) (v := ?_) rfl (by kernel_rfl) (by kernel_rfl) (by kernel_rfl) (by kernel_rfl) (fun _ _ _ h => h) (Or.inl ⟨by rfl, ?_⟩) hS0 ?_
          rotate_left 1
          · (intro w hSw; (try dsimp only at hSw); go_simp; (try with_reducible rfl))
          try simp only [Act.put, List.setIfInBounds_toArray, List.set_cons_zero, List.set_cons_succ]
          refine wpAnyX_one (i := 6) (o := _) rfl (by kernel_rfl) (fun K hK => ?_)
          go_simp
          refine (HCELL.out _).mono ?_
          rintro ee w8 ⟨rfl, hb80⟩
          have hb8 : Below wr.heap.size wr w8 := ⟨hb80.os, hb80.tape, hb80.output, hb80.size, hb80.block⟩
          have hz8 := hb8.size
          refine hK.out _ _ (fun _ => ?_) (fun hS1 => ?_)
          · exact ⟨kc hb80 (hS0.1), kc hb80 (hS0.2.1), kc hb80 (hS0.2.2.1), kc hb80 (hS0.2.2.2)⟩
          clear hK K
          have hS1 := hS1 (by decide)
          try simp only [Act.put, List.setIfInBounds_toArray, List.set_cons_zero, List.set_cons_succ]
          refine wpAnyX_one (i := 7) (o := _) rfl (by kernel_rfl) (fun K hK => ?_)
          go_simp
          refine hK.out _ _ (fun _ => ?_) (fun hS2 => ?_)
          · first | exact ⟨kal (hS1.1), kal (hS1.2.1), kal (hS1.2.2.1), kal (hS1.2.2.2)⟩ | exact ⟨kald (hS1.1), kald (hS1.2.1), kald (hS1.2.2.1), kald (hS1.2.2.2)⟩
          clear hK K
          have hS2 := hS2 (by decide)
          try simp only [Act.put, List.setIfInBounds_toArray, List.set_cons_zero, List.set_cons_succ]
          refine wpAnyX_one (i := 8) (o := _) rfl (by kernel_rfl) (fun K hK => ?_)
          refine step_append_lies _ (by rfl) _ _ _ (by rfl) (w.heap.size + 1 + 1 + 1) 37 i0 _ 5 40 Try.underlying24 hi0 hu0 hu1 hu2 rfl (by omega) v (t + j) (csL zs) (by rfl) (World.ownsRow.alloc (by have := HOw.out.mono hb8; unfold Own5 at this; rw [HL.out] at this; exact this) _) ⟨w8.heap.size, 0, none⟩ 1 1 x.cs (by rfl) (by rfl) (World.news_of_block (cs := x.cs.toArray) (t := 37) (fr := (0, 0)) (heap_alloc_new _ _)) (by simp [D5.cs, Value.oneCell']) (by omega) (append_ok (by omega)).1 (append_ok (by omega)).2 (by simp; omega) (w8.heap.size + 1) (by simp) ?_
          intro gg cap w9 hown9 hgrow9 hat9 hlt9
          refine hK.out _ _ (fun _ => ?_) (fun hS3 => ?_)
          · exact ⟨hgrow9.cell (hS2.1) neo, hgrow9.cell (hS2.2.1) neg, hgrow9.cell (hS2.2.2.1) neg, hgrow9.cell (hS2.2.2.2) neg⟩
          clear hK K
          have hS3 := hS3 (by decide)
          try simp only [Act.put, List.setIfInBounds_toArray, List.set_cons_zero, List.set_cons_succ]
          refine wpAnyX_take (i := 9) (oi := _) (v := ?_) rfl (by kernel_rfl) (by kernel_rfl) (by kernel_rfl) (by kernel_rfl) (fun _ _ _ h => h) (Or.inl ⟨by rfl, ?_⟩) hS3 ?_
          rotate_left 1
          · (intro w hSw; (try dsimp only at hSw); go_simp; (try with_reducible rfl))
          try simp only [Act.put, List.setIfInBounds_toArray, List.set_cons_zero, List.set_cons_succ]
          refine wpAnyX_one (i := 10) (o := _) rfl (by kernel_rfl) (fun K hK => ?_)
          have Yo := (Bx.alloc (Xo.out.mono hb8) _).grown hgrow9 neo
          have yo2 := Yo.c 2 rfl
          have yof := Yo.f 2
          go_simp
          refine hK.out _ _ (fun h => absurd rfl h) (fun _ => ?_)
          clear hK K
          try simp only [Act.put, List.setIfInBounds_toArray, List.set_cons_zero, List.set_cons_succ]
          refine wpAnyX_done (by kernel_rfl) ?_ _
          go_wp2_with (fail)
          go_roundg m2
          case measure => omega
          case rel =>
            have hz9 := hgrow9.size
            simp only [World.size_alloc] at hz9
            have Yg := (Bx.alloc (Xg.out.mono hb8) _).grown hgrow9 neg
            have Yz := (Bx.alloc (Xz.out.mono hb8) _).grown hgrow9 nez
            have hB8 : Below w.heap.size w w8 := chain hB hb8 hBq
            refine ⟨j + 1, .slice (some ⟨gg, 0, none⟩) (t + j + 1) cap, zs ++ [x], by omega, by go_num, Yg.far (by omega), Yz.far (by omega), Yo.set rfl, ?_, ?_, by (try simp only [World.size_setCell]); omega, ?_⟩
            · show Own5 _ _ _ _ _
              exact (Own5.snoc HL.out hown9).far (by show w.heap.size + 1 + 1 < _; omega) _
            · show _ = _
              rw [← Nat.add_assoc, tab_succ, ← HZ.out, HX.out]
              unfold gsF
              rw [(divG hltj).1, (divG hltj).2]
            · refine Below.setCell ?_ (by show w.heap.size ≤ w.heap.size + 1 + 1; omega) _
              refine Below.grown (hB8.alloc hB8.size _) hgrow9 (by simp only [World.size_alloc]; omega) (fun q e => by have := (HVL.out _ e).1; omega)

end Go.Proofs.Ytncgccpkbneagaa
namespace Go.Proofs.Ytncgccpkbneagaa
open Go.RowKit RM
set_option linter.unusedVariables false
set_option linter.unusedSimpArgs false
attribute [local irreducible] World.setCell

open GM
theorem vg_nat {n : Nat} {g : C4.GateV} (h : C4.vgB (n : Int) g = true) : okG n g.f0.toNat g.f1.toNat g.f2.toNat ∧ g = ⟨(g.f0.toNat : Int), (g.f1.toNat : Int), (g.f2.toNat : Int)⟩ := by
  obtain ⟨m, kd, A, B, h1, rfl, hok⟩ := vg_ok h
  obtain rfl : n = m := by omega
  exact ⟨hok, rfl⟩
theorem gm_g {n D NN : Nat} {g : C4.GateV} {w : World} (hv : C4.vgB (n : Int) g = true) (hD : D = 2 ^ n) (hNN : NN = D * D) :
    Calls Try.prog 43 #[.int .i64 (n : Int), g.v] w fun ee w' => ∃ b : Nat, ee = .returned (mt (D : Int) (D : Int) (some ⟨b, 0, none⟩) NN NN true) ∧ Bk w' b 37 (gmt n D g) ∧ w.heap.size ≤ b ∧ Below w.heap.size w w' := by
  obtain ⟨hok, hg⟩ := vg_nat hv
  rw [hg] at hv
  have h := gm_any (w := w) hok hv hD hNN
  rw [hNN] at h ⊢
  rw [hg]
  exact h
theorem lg_g {n D NN : Nat} {g : C4.GateV} {w : World} (hv : C4.vgB (n : Int) g = true) (hD : D = 2 ^ n) (hNN : NN = D * D) :
    Calls Try.prog 95 #[.int .i64 (n : Int), g.v] w fun ee w' => ∃ b cq : Nat, ee = .returned (mv (D : Int) (D : Int) (some ⟨b, 0, none⟩) NN cq) ∧ Rd w' (some ⟨b, 0, none⟩) (gmt n D g) ∧ w.heap.size ≤ b ∧ Below w.heap.size w w' := by
  obtain ⟨hok, hg⟩ := vg_nat hv
  have h := lgate2 (w := w) hok hD hNN
  rw [hNN] at h ⊢
  rw [hg]
  exact h
/-- what the applied gates answer -/
def AG (w w' : World) (ee : Ending) (D C N h0 : Nat) (r : Option (List D5)) : Prop :=
  (r = none → ee = .returned (mt 0 0 none 0 0 false)) ∧ (∀ zs, r = some zs → ∃ h : Nat, ee = .returned (mt (D : Int) (C : Int) (some ⟨h, 0, none⟩) N N true) ∧ Bk w' h 37 zs ∧ (h = h0 ∨ w.heap.size ≤ h)) ∧ Below w.heap.size w w'

theorem kcB {B b o : Nat} {w w' : World} {v : Value} (hb : Below B w w') (h : b < B) (hc : w.cell? ⟨b, o, none⟩ = some v) : w'.cell? ⟨b, o, none⟩ = some v := (hb.cell (p := ⟨b, o, none⟩) h).trans hc
set_option maxRecDepth 100000 in
set_option maxHeartbeats 8000000 in
theorem ag_i {n D C N m c1 h0 : Nat} {A : Option Addr} {gs : List C4.GateV} {xs : List D5} {w : World} (hA : C4.Rd C4.gateE w A gs) (hm : gs.length = m) (hm4 : m ≤ 400) (hG : ∀ (i : Nat) (g : C4.GateV), gs[i]? = some g → C4.vgB (n : Int) g = true) (h1 : 1 ≤ n) (h5 : n ≤ 5) (hD : D = 2 ^ n) (hC : dimB (C : Int) = true) (hN : N = D * C) (hX : Bk w h0 37 xs) (hx : xs.length = N) (hok : okM (D : Int) (C : Int) N xs = true) :
    Calls Try.prog 104 #[C4.circuitV (n : Int) A m c1, mv (D : Int) (C : Int) (some ⟨h0, 0, none⟩) N N] w fun ee w' => AG w w' ee D C N h0 (apl n D C gs xs) := by
  obtain ⟨d2, d32, dw, dw2, dd⟩ := pow_dim h1 h5 hD
  have c32 : 1 ≤ C ∧ C ≤ 32 := by have := dimB_cases hC; omega
  have n10 : N ≤ 1024 := by rw [hN]; exact Nat.mul_le_mul d32 c32.2
  have hh0 : h0 < w.heap.size := hX.lt
  have HA := hid hA
  have HM := hid hm
  have HG := hid hG
  have HD := hid hD
  have HC := hid hC
  have EN := hid hN
  have HX := hid hX
  have HX2 := hid (And.intro hok hx)
  have DD := hid dd
  have hm5 : (m : Int) ≤ 400 := by omega
  clear hA hm hG hD hC hN hX hx hok dd
  go_enter Try.func104, Try.ntmps104
  go_wp2_with (fail)
  go_loopg [15] m (fun q s1 wr => ∃ (j h : Nat) (ys : List D5), j + q = m ∧ s1 = .int .i64 (j : Int) ∧ Hid (Bx wr (w.heap.size) 69 #[.int .i64 (n : Int), .slice A m c1]) ∧ Hid (Bx wr (w.heap.size + 1) 26 #[.int .i64 (D : Int), .int .i64 (C : Int), .slice (some ⟨h, 0, none⟩) N N]) ∧ Hid (Bx wr (w.heap.size + 1 + 1) 26 #[.int .i64 0, .int .i64 0, .slice none 0 0]) ∧ Hid (Bk wr h 37 ys) ∧ Hid (apl n D C (gs.take j) xs = some ys) ∧ Hid (okM (D : Int) (C : Int) N ys = true ∧ ys.length = N) ∧ Hid (h = h0 ∨ w.heap.size ≤ h) ∧ (h < w.heap.size ∨ w.heap.size + 1 + 1 < h) ∧ w.heap.size + 1 + 1 + 1 ≤ wr.heap.size ∧ Below w.heap.size w wr)
  case atStart =>
    exact ⟨0, h0, xs, by omega, rfl, (by show Bx _ _ _ _; (repeat' (first | (with_reducible assumption) | (refine Bx.new (by first | (with_reducible rfl) | (simp; done))) | (with_reducible refine Bx.alloc ?_ _) | (with_reducible refine Bx.drew ?_) | (with_reducible refine Bx.drewN ?_ _) | (with_reducible refine Bx.mono ?_ (by assumption)) | (with_reducible refine Bx.badly ?_ (by assumption) (by omega)) | (with_reducible refine Bx.far ?_ (by (try simp only [World.size_alloc, World.size_drew]); omega)) | (with_reducible refine Bx.set ?_ rfl) | (with_reducible refine Bx.grown ?_ (by assumption) (by assumption))))), (by show Bx _ _ _ _; (repeat' (first | (with_reducible assumption) | (refine Bx.new (by first | (with_reducible rfl) | (simp; done))) | (with_reducible refine Bx.alloc ?_ _) | (with_reducible refine Bx.drew ?_) | (with_reducible refine Bx.drewN ?_ _) | (with_reducible refine Bx.mono ?_ (by assumption)) | (with_reducible refine Bx.badly ?_ (by assumption) (by omega)) | (with_reducible refine Bx.far ?_ (by (try simp only [World.size_alloc, World.size_drew]); omega)) | (with_reducible refine Bx.set ?_ rfl) | (with_reducible refine Bx.grown ?_ (by assumption) (by assumption))))), (by show Bx _ _ _ _; (repeat' (first | (with_reducible assumption) | (refine Bx.new (by first | (with_reducible rfl) | (simp; done))) | (with_reducible refine Bx.alloc ?_ _) | (with_reducible refine Bx.drew ?_) | (with_reducible refine Bx.drewN ?_ _) | (with_reducible refine Bx.mono ?_ (by assumption)) | (with_reducible refine Bx.badly ?_ (by assumption) (by omega)) | (with_reducible refine Bx.far ?_ (by (try simp only [World.size_alloc, World.size_drew]); omega)) | (with_reducible refine Bx.set ?_ rfl) | (with_reducible refine Bx.grown ?_ (by assumption) (by assumption))))), by show Bk _ _ _ _; exact (((HX.out.alloc _).alloc _).alloc _), by show _ = _; rfl, HX2, Or.inl rfl, Or.inl hh0, by simp, by (repeat' (first | (with_reducible exact Below.refl _ _) | (with_reducible assumption) | (with_reducible refine Below.alloc ?_ ?_ _) | (with_reducible refine Below.drew ?_) | (with_reducible refine below_drewN ?_ _) | (with_reducible refine Below.setCell ?_ ?_ _) | (with_reducible refine chain ?_ (by assumption) ?_) | omega | (simp; done) | (simp; omega)))⟩
  case round =>
    obtain ⟨j, h, ys, hj, rfl, Xc, Xm, Xz, HB0, HAP, HY, HH, hh, hsz, hB⟩ := hrel
    have cc0 := Xc.out.c 0 rfl
    have cc1 := Xc.out.c 1 rfl
    have lc := Xc.out.lt
    have cm0 := Xm.out.c 0 rfl
    have cm1 := Xm.out.c 1 rfl
    have cm2 := Xm.out.c 2 rfl
    have lm := Xm.out.lt
    have fm := Xm.out.f
    have cz0 := Xz.out.c 0 rfl
    have cz1 := Xz.out.c 1 rfl
    have cz2 := Xz.out.c 2 rfl
    have lz := Xz.out.lt
    have fz := Xz.out.f
    have hBq := hB.size
    cases gk with
    | zero =>
      obtain rfl : j = m := by omega
      have e := HAP.out
      rw [List.take_of_length_le (by rw [HM.out]; exact Nat.le_refl _)] at e
      have HE := hid e
      clear e
      go_wp2_with (fail)
      refine bodyPost_ret (v := mt (D : Int) (C : Int) (some ⟨h, 0, none⟩) N N true) (by first | (simp [results, Try.results104, go_sem, *]; done) | (simp (disch := (first | omega | (simp; done) | (simp; omega))) [results, Try.results104, go_sem, *]; done) | (simp only [results, Try.results104]; go_simp; done)) rfl ⟨fun k => ?_, fun zs k => ?_, ?_⟩
      · rw [HE.out] at k; cases k
      · rw [HE.out] at k
        obtain rfl := Option.some.inj k
        refine ⟨h, rfl, ?_, HH.out⟩
        (repeat' (first | exact HB0.out | refine Bk.far ?_ (by show h ≠ w.heap.size + 1 + 1; omega) _))
      · (repeat' (first | (with_reducible exact Below.refl _ _) | (with_reducible assumption) | (with_reducible refine Below.alloc ?_ ?_ _) | (with_reducible refine Below.drew ?_) | (with_reducible refine below_drewN ?_ _) | (with_reducible refine Below.setCell ?_ ?_ _) | (with_reducible refine chain ?_ (by assumption) ?_) | omega | (simp; done) | (simp; omega)))
    | succ m9 =>
      have hlt : j < m := by omega
      have j1 : (j : Int) < (m : Int) := by omega
      obtain ⟨g, hg⟩ : ∃ g, gs[j]? = some g := ⟨_, List.getElem?_eq_getElem (by rw [HM.out]; exact hlt)⟩
      have hv := HG.out j g hg
      obtain ⟨ga, go, rfl, hga, q0, q1, q2⟩ := C4.Rd.atGate HA.out hg
      have z0 := kcB hB hga q0
      have z1 := kcB hB hga q1
      have z2 := kcB hB hga q2
      have HGJ := hid hg
      have HV := hid hv
      clear hg hv q0 q1 q2
      go_wp2_with (fail)
      refine (gm_g (D := D) (NN := D * D) HV.out HD.out rfl).mono ?_
      rintro ee w8 ⟨gb, rfl, hK8, hg8, hb8⟩
      have hz8 := hb8.size
      (try simp only [World.size_alloc] at hz8 hg8)
      have hb8' : Below wr.heap.size wr w8 := by (repeat' (first | (with_reducible exact Below.refl _ _) | (with_reducible assumption) | (with_reducible refine Below.alloc ?_ ?_ _) | (with_reducible refine Below.drew ?_) | (with_reducible refine below_drewN ?_ _) | (with_reducible refine Below.setCell ?_ ?_ _) | (with_reducible refine chain ?_ (by assumption) ?_) | omega | (simp; done) | (simp; omega)))
      have hB8 : Below w.heap.size w w8 := chain hB hb8' hBq
      have Yc := hid (Xc.out.mono hb8')
      have Ym := hid (Xm.out.mono hb8')
      have Yz := hid (Xz.out.mono hb8')
      have YB := hid (HB0.out.mono hb8')
      have HK8 := hid hK8
      clear hK8 hb8 Xc lc cc0 cc1 Xm lm cm0 cm1 cm2 Xz lz cz0 cz1 cz2 fm fz HB0 z0 z1 z2
      obtain ⟨Xc, Xm, Xz, HB0⟩ : _ ∧ _ ∧ _ ∧ _ := ⟨Yc, Ym, Yz, YB⟩
      clear Yc Ym Yz YB
      have cc0 := Xc.out.c 0 rfl
      have cc1 := Xc.out.c 1 rfl
      have lc := Xc.out.lt
      have cm0 := Xm.out.c 0 rfl
      have cm1 := Xm.out.c 1 rfl
      have cm2 := Xm.out.c 2 rfl
      have lm := Xm.out.lt
      have fm := Xm.out.f
      have cz0 := Xz.out.c 0 rfl
      have cz1 := Xz.out.c 1 rfl
      have cz2 := Xz.out.c 2 rfl
      have lz := Xz.out.lt
      have fz := Xz.out.f
      go_wp2_with (fail)
      refine (mu_i_t (ra := D) (ca := D) (cb := C) (g0 := gb) (h0 := h) (n := D * D) (m := N) (cp := D * D) (cp' := N) (N := N) (xs := gmt n D g) (ys := ys) ?_ ?_ (tab_len _ _) HY.out.2 (gmt_okM DD.out (vg_nat HV.out).1) HY.out.1 EN.out (Nat.le_refl _) (by have := Nat.mul_le_mul d32 d32; omega) (Nat.le_refl _) (by omega)).mono ?_
      · exact HK8.out.rd.mono (by (repeat' (first | (with_reducible exact Below.refl _ _) | (with_reducible assumption) | (with_reducible refine Below.alloc ?_ ?_ _) | (with_reducible refine Below.drew ?_) | (with_reducible refine below_drewN ?_ _) | (with_reducible refine Below.setCell ?_ ?_ _) | (with_reducible refine chain ?_ (by assumption) ?_) | omega | (simp; done) | (simp; omega))))
      · exact HB0.out.rd.mono (by (repeat' (first | (with_reducible exact Below.refl _ _) | (with_reducible assumption) | (with_reducible refine Below.alloc ?_ ?_ _) | (with_reducible refine Below.drew ?_) | (with_reducible refine below_drewN ?_ _) | (with_reducible refine Below.setCell ?_ ?_ _) | (with_reducible refine chain ?_ (by assumption) ?_) | omega | (simp; done) | (simp; omega))))
      rintro ee w9 ⟨r1, r2, hb9⟩
      have hz9 := hb9.size
      (try simp only [World.size_alloc] at hz9)
      have hb9' : Below w8.heap.size w8 w9 := chain ((Below.refl _ _).alloc (Nat.le_refl _) _) hb9 (by simp)
      have hB9 : Below w.heap.size w w9 := chain hB8 hb9' hB8.size
      have Yc := hid (Xc.out.mono hb9')
      have Ym := hid (Xm.out.mono hb9')
      have Yz := hid (Xz.out.mono hb9')
      clear Xc lc cc0 cc1 Xm lm cm0 cm1 cm2 Xz lz cz0 cz1 cz2 fm fz HB0
      obtain ⟨Xc, Xm, Xz⟩ : _ ∧ _ ∧ _ := ⟨Yc, Ym, Yz⟩
      clear Yc Ym Yz
      have cc0 := Xc.out.c 0 rfl
      have cc1 := Xc.out.c 1 rfl
      have lc := Xc.out.lt
      have cm0 := Xm.out.c 0 rfl
      have cm1 := Xm.out.c 1 rfl
      have cm2 := Xm.out.c 2 rfl
      have lm := Xm.out.lt
      have fm := Xm.out.f
      have cz0 := Xz.out.c 0 rfl
      have cz1 := Xz.out.c 1 rfl
      have cz2 := Xz.out.c 2 rfl
      have lz := Xz.out.lt
      have fz := Xz.out.f
      have hst := apl_take HGJ.out HAP.out
      have HST := hid hst
      clear hst
      cases hq : anyB N (mmG D C (gmt n D g) ys)
      · obtain ⟨g', rfl, hK9, hg9⟩ := r2 hq
        (try simp only [World.size_alloc] at hg9)
        have e : stB n D C g ys = false := by unfold stB; rw [← EN.out]; exact hq
        have HE := hid e
        have HK9 := hid hK9
        have ef : tab N (mmF D C (gmt n D g) ys) = stF n D C g ys := by unfold stF; rw [EN.out]
        have EF9 := hid ef
        have hl9 := hK9.lt
        clear r1 r2 hq hK9 e ef hb9
        go_wp2_with (fail)
        go_roundg m9
        case measure => omega
        case rel =>
          have R1 := Xc.out
          have R2 := Xm.out
          have R3 := Xz.out
          refine ⟨j + 1, g', stF n D C g ys, by omega, by go_num, ?_, ?_, ?_, ?_, ?_, ?_, Or.inr (by omega), Or.inr (by omega), by (try simp only [World.size_alloc, World.size_setCell]); omega, ?_⟩
          · show Bx _ _ _ _
            (repeat' (first | (with_reducible exact R1) | (with_reducible refine Bx.far ?_ (by omega)) | (with_reducible refine Bx.alloc ?_ _)))
          · show Bx _ _ _ _
            exact Bx.alloc (Bx.set (i := 2) (u := .slice (some ⟨g', 0, none⟩) N N) (Bx.set (i := 1) (u := .int .i64 (C : Int)) (Bx.set (i := 0) (u := .int .i64 (D : Int)) R2 rfl) rfl) rfl) _
          · show Bx _ _ _ _
            (repeat' (first | (with_reducible exact R3) | (with_reducible refine Bx.far ?_ (by omega)) | (with_reducible refine Bx.alloc ?_ _)))
          · show Bk _ _ _ _
            rw [← EF9.out]
            (repeat' (first | exact HK9.out | refine Bk.alloc ?_ _ | refine Bk.far ?_ (by show g' ≠ w.heap.size + 1; omega) _))
          · show _ = _
            rw [HST.out, HE.out]; rfl
          · show _ ∧ _
            rw [EN.out]
            exact ⟨stF_okM DD.out HC.out (vg_nat HV.out).1 (okM_iff.1 HY.out.1).2.2.2, stF_len⟩
          · (repeat' (first | (with_reducible assumption) | refine Below.setCell ?_ (by show w.heap.size ≤ w.heap.size + 1; omega) _ | refine Below.alloc ?_ (by (try simp only [World.size_setCell]); omega) _))
      · obtain rfl := r1 hq
        have e : stB n D C g ys = true := by unfold stB; rw [← EN.out]; exact hq
        have e2 : apl n D C gs xs = none := by
          refine apl_none (j := j + 1) ?_
          rw [HST.out, e]; rfl
        have HE := hid e2
        clear r1 r2 hq e e2 hb9
        go_wp2_with (fail)
        refine bodyPost_ret (v := mt 0 0 none 0 0 false) (by first | (simp [results, Try.results104, go_sem, *]; done) | (simp (disch := (first | omega | (simp; done) | (simp; omega))) [results, Try.results104, go_sem, *]; done) | (simp only [results, Try.results104]; go_simp; done)) rfl ⟨fun _ => rfl, fun zs k => ?_, ?_⟩
        · rw [HE.out] at k; cases k
        · (repeat' (first | (with_reducible exact Below.refl _ _) | (with_reducible assumption) | (with_reducible refine Below.alloc ?_ ?_ _) | (with_reducible refine Below.drew ?_) | (with_reducible refine below_drewN ?_ _) | (with_reducible refine Below.setCell ?_ ?_ _) | (with_reducible refine chain ?_ (by assumption) ?_) | omega | (simp; done) | (simp; omega)))

end Go.Proofs.Ytncgccpkbneagaa
namespace Go.Proofs.Ytncgccpkbneagaa
open Go.RowKit RM
set_option linter.unusedVariables false
set_option linter.unusedSimpArgs false
attribute [local irreducible] World.setCell

open GM
theorem Rd.nz {W : World} {A : Option Addr} {xs : List D5} (h : Rd W A xs) (hn : 0 < xs.length) : ∃ g o, A = some ⟨g, o, none⟩ ∧ g < W.heap.size := by
  obtain ⟨x, hx⟩ : ∃ x, xs[0]? = some x := ⟨_, List.getElem?_eq_getElem hn⟩
  obtain ⟨g, o, e, hc⟩ := h 0 x hx
  exact ⟨g, o, e, hc.lt⟩
theorem Rd.bad {W W' : World} {g o gc : Nat} {u : Value} {xs : List D5} (h : Rd W (some ⟨g, o, none⟩) xs) (hb : Below W.heap.size (W.setCell ⟨gc, 0, none⟩ u) W') (hne : g ≠ gc) : Rd W' (some ⟨g, o, none⟩) xs := by
  intro k x hx
  obtain ⟨g1, o1, e1, hc⟩ := h k x hx
  simp only [Option.some.injEq, Addr.mk.injEq, and_true] at e1
  obtain ⟨rfl, rfl⟩ := e1
  exact ⟨g, o, rfl, hc.at_ ((hb.block g hc.lt).trans (Below.heap_setCell _ _ _ _ (by show g ≠ gc; exact hne)))⟩
/-- what the model's applied gates answer -/
def RN (w w' : World) (ee : Ending) (D C N h0 gc : Nat) (r : Option (List D5)) : Prop :=
  ∃ (z : Bool) (zs : List D5) (h o cq : Nat), ee = .returned (mv (D : Int) (C : Int) (some ⟨h, o, none⟩) N cq) ∧ zs.length = N ∧ (z = false → r = some zs) ∧ (z = true → r = none) ∧ Rd w' (some ⟨h, o, none⟩) zs ∧ (h = h0 ∨ w.heap.size ≤ h) ∧ Below w.heap.size (w.setCell ⟨gc, 0, none⟩ (.bool z)) w'

set_option maxRecDepth 100000 in
set_option maxHeartbeats 8000000 in
theorem lrun {n D C N m c1 h0 o0 cp0 gc : Nat} {A : Option Addr} {gs : List C4.GateV} {xs : List D5} {w : World} (hA : C4.Rd C4.gateE w A gs) (hAg : ∀ a, A = some a → a.block ≠ gc) (hm : gs.length = m) (hm4 : m ≤ 400) (hG : ∀ (i : Nat) (g : C4.GateV), gs[i]? = some g → C4.vgB (n : Int) g = true) (h1 : 1 ≤ n) (h5 : n ≤ 5) (hD : D = 2 ^ n) (hC : dimB (C : Int) = true) (hN : N = D * C) (hX : Rd w (some ⟨h0, o0, none⟩) xs) (hh : h0 ≠ gc) (hhw : h0 < w.heap.size) (hx : xs.length = N) (hok : okM (D : Int) (C : Int) N xs = true) (hc0 : Bx w gc 99 #[.bool false]) :
    Calls Try.prog 101 #[.pointer (some ⟨gc, 0, none⟩), C4.circuitV (n : Int) A m c1, mv (D : Int) (C : Int) (some ⟨h0, o0, none⟩) N cp0] w fun ee w' => RN w w' ee D C N h0 gc (apl n D C gs xs) := by
  obtain ⟨d2, d32, dw, dw2, dd⟩ := pow_dim h1 h5 hD
  have c32 : 1 ≤ C ∧ C ≤ 32 := by have := dimB_cases hC; omega
  have n10 : N ≤ 1024 := by rw [hN]; exact Nat.mul_le_mul d32 c32.2
  have nz : 0 < N := by rw [hN]; exact Nat.mul_pos (Nat.lt_of_lt_of_le Nat.two_pos d2) c32.1
  have hgc := hc0.lt
  have HA := hid hA
  have HAG := hid hAg
  have HM := hid hm
  have HG := hid hG
  have HD := hid hD
  have HC := hid hC
  have EN := hid hN
  have HX := hid hX
  have HX2 := hid (And.intro hok hx)
  have DD := hid dd
  have XC := hid hc0
  have hm5 : (m : Int) ≤ 400 := by omega
  clear hA hAg hm hG hD hC hN hX hx hok dd hc0
  go_enter Try.func101, Try.ntmps101
  go_wp2_with (fail)
  go_loopg [12] m (fun q s1 wr => ∃ (j h o cq : Nat) (z : Bool) (ys : List D5), j + q = m ∧ s1 = .int .i64 (j : Int) ∧ Hid (Bx wr (w.heap.size) 69 #[.int .i64 (n : Int), .slice A m c1]) ∧ Hid (Bx wr (w.heap.size + 1) 26 #[.int .i64 (D : Int), .int .i64 (C : Int), .slice (some ⟨h, o, none⟩) N cq]) ∧ Hid (Bx wr (w.heap.size + 1 + 1) 26 #[.int .i64 0, .int .i64 0, .slice none 0 0]) ∧ Hid (Bx wr (gc) 99 #[.bool z]) ∧ Hid (Rd wr (some ⟨h, o, none⟩) ys) ∧ Hid (ys.length = N) ∧ Hid (z = false → apl n D C (gs.take j) xs = some ys ∧ okM (D : Int) (C : Int) N ys = true) ∧ Hid (z = true → apl n D C gs xs = none) ∧ Hid (h = h0 ∨ w.heap.size ≤ h) ∧ h ≠ gc ∧ (h < w.heap.size ∨ w.heap.size + 1 + 1 < h) ∧ w.heap.size + 1 + 1 + 1 ≤ wr.heap.size ∧ Hid (Below w.heap.size (w.setCell ⟨gc, 0, none⟩ (.bool z)) wr))
  case atStart =>
    have RC := XC.out
    have hb0 : Below w.heap.size (w.setCell ⟨gc, 0, none⟩ (.bool false)) w := bad_0 (RC.c 0 rfl)
    refine ⟨0, h0, o0, cp0, false, xs, by omega, rfl, ?_, ?_, ?_, ?_, ?_, HX2.out.2, (fun _ => ⟨rfl, HX2.out.1⟩), (fun k => by cases k), Or.inl rfl, hh, Or.inl hhw, by simp, ?_⟩
    · show Bx _ _ _ _; exact ((Bx.new rfl).alloc _).alloc _
    · show Bx _ _ _ _; exact (Bx.new (by simp)).alloc _
    · show Bx _ _ _ _; exact Bx.new (by simp)
    · show Bx _ _ _ _; exact ((RC.alloc _).alloc _).alloc _
    · show Rd _ _ _
      exact HX.out.mono (by (repeat' (first | (with_reducible exact Below.refl _ _) | (with_reducible assumption) | (with_reducible refine Below.alloc ?_ ?_ _) | (with_reducible refine Below.drew ?_) | (with_reducible refine below_drewN ?_ _) | (with_reducible refine Below.setCell ?_ ?_ _) | (with_reducible refine chain ?_ (by assumption) ?_) | omega | (simp; done) | (simp; omega))))
    · show Below _ _ _
      exact ((hb0.alloc (Nat.le_refl _) _).alloc (by simp) _).alloc (by simp; omega) _
  case round =>
    obtain ⟨j, h, o, cq, z, ys, hj, rfl, Xc, Xm, Xz, Xf, HR, HL, HZF, HZT, HH, hhc, hhb, hsz, HB⟩ := hrel
    have cc0 := Xc.out.c 0 rfl
    have cc1 := Xc.out.c 1 rfl
    have lc := Xc.out.lt
    have cm0 := Xm.out.c 0 rfl
    have cm1 := Xm.out.c 1 rfl
    have cm2 := Xm.out.c 2 rfl
    have lm := Xm.out.lt
    have fm := Xm.out.f
    have cz0 := Xz.out.c 0 rfl
    have cz1 := Xz.out.c 1 rfl
    have cz2 := Xz.out.c 2 rfl
    have lz := Xz.out.lt
    have fz := Xz.out.f
    have cf0 := Xf.out.c 0 rfl
    have lf := Xf.out.lt
    have ff := Xf.out.f
    have hBq := HB.out.size
    rw [World.size_setCell] at hBq
    cases gk with
    | zero =>
      obtain rfl : j = m := by omega
      go_wp2_with (fail)
      refine bodyPost_ret (v := mv (D : Int) (C : Int) (some ⟨h, o, none⟩) N cq) (by first | (simp [results, Try.results101, go_sem, *]; done) | (simp (disch := (first | omega | (simp; done) | (simp; omega))) [results, Try.results101, go_sem, *]; done) | (simp only [results, Try.results101]; go_simp; done)) rfl ⟨z, ys, h, o, cq, rfl, HL.out, fun k => ?_, fun k => ?_, ?_, HH.out, ?_⟩
      · obtain ⟨e, -⟩ := HZF.out k
        rw [List.take_of_length_le (by rw [HM.out]; exact Nat.le_refl _)] at e
        exact e
      · exact HZT.out k
      · (repeat' (first | exact HR.out | refine Rd.far ?_ (fun a ha => by obtain rfl := Option.some.inj ha; show h ≠ w.heap.size + 1 + 1; omega) _))
      · have hB := HB.out
        (repeat' (first | (with_reducible exact Below.refl _ _) | (with_reducible assumption) | (with_reducible refine Below.alloc ?_ ?_ _) | (with_reducible refine Below.drew ?_) | (with_reducible refine below_drewN ?_ _) | (with_reducible refine Below.setCell ?_ ?_ _) | (with_reducible refine chain ?_ (by assumption) ?_) | omega | (simp; done) | (simp; omega)))
    | succ m9 =>
      have hlt : j < m := by omega
      have j1 : (j : Int) < (m : Int) := by omega
      obtain ⟨g, hg⟩ : ∃ g, gs[j]? = some g := ⟨_, List.getElem?_eq_getElem (by rw [HM.out]; exact hlt)⟩
      have hv := HG.out j g hg
      obtain ⟨ga, go, rfl, hga, q0, q1, q2⟩ := C4.Rd.atGate HA.out hg
      have hgg : ga ≠ gc := HAG.out _ rfl
      have z0 := kbad HB.out hgg.symm q0
      have z1 := kbad HB.out hgg.symm q1
      have z2 := kbad HB.out hgg.symm q2
      have HGJ := hid hg
      have HV := hid hv
      have lga : ga < wr.heap.size := by omega
      clear hg hv q0 q1 q2
      cases z
      · have HZ0 : Hid (apl n D C (gs.take j) xs = some ys ∧ okM (D : Int) (C : Int) N ys = true) := hid (HZF.out rfl)
        clear HZF HZT
        go_upto_region 5 with (fail)
        obtain ⟨W, hW⟩ : ∃ W : World, W = wr.alloc (.cells #[.int .i64 g.f0, .int .i64 g.f1, .int .i64 g.f2] 59) := ⟨_, rfl⟩
        have hbW : Below wr.heap.size wr W := by rw [hW]; exact (Below.refl _ _).alloc (Nat.le_refl _) _
        have Xg : Bx W wr.heap.size 59 #[.int .i64 g.f0, .int .i64 g.f1, .int .i64 g.f2] := by rw [hW]; exact Bx.new rfl
        have hzW : wr.heap.size < W.heap.size := by rw [hW]; simp
        rw [← hW]
        clear hW z0 z1 z2
        have Yc := hid (Xc.out.mono hbW)
        have Ym := hid (Xm.out.mono hbW)
        have Yz := hid (Xz.out.mono hbW)
        have Yf := hid (Xf.out.mono hbW)
        have YR := hid (HR.out.mono hbW)
        have HBW := hid (chain HB.out hbW (by omega))
        clear Xc lc cc0 cc1 Xm lm cm0 cm1 cm2 fm Xz lz cz0 cz1 cz2 fz Xf lf cf0 ff HR HB
        obtain ⟨Xc, Xm, Xz, Xf, HR⟩ : _ ∧ _ ∧ _ ∧ _ ∧ _ := ⟨Yc, Ym, Yz, Yf, YR⟩
        clear Yc Ym Yz Yf YR
        have cc0 := Xc.out.c 0 rfl
        have cc1 := Xc.out.c 1 rfl
        have lc := Xc.out.lt
        have cm0 := Xm.out.c 0 rfl
        have cm1 := Xm.out.c 1 rfl
        have cm2 := Xm.out.c 2 rfl
        have lm := Xm.out.lt
        have fm := Xm.out.f
        have cz0 := Xz.out.c 0 rfl
        have cz1 := Xz.out.c 1 rfl
        have cz2 := Xz.out.c 2 rfl
        have lz := Xz.out.lt
        have fz := Xz.out.f
        have lf := Xf.out.lt
        have cf0 := Xf.out.c 0 rfl
        have g0 := Xg.c 0 rfl
        have g1 := Xg.c 1 rfl
        have g2 := Xg.c 2 rfl
        have ycc0 : W.drew.cell? ⟨w.heap.size, 0, none⟩ = some (.int .i64 (n : Int)) := cc0
        have ycc1 : W.drew.cell? ⟨w.heap.size, 1, none⟩ = some (.slice (some ⟨ga, go, none⟩) m c1) := cc1
        have yg0 : W.drew.cell? ⟨wr.heap.size, 0, none⟩ = some (.int .i64 g.f0) := g0
        have yg1 : W.drew.cell? ⟨wr.heap.size, 1, none⟩ = some (.int .i64 g.f1) := g1
        have yg2 : W.drew.cell? ⟨wr.heap.size, 2, none⟩ = some (.int .i64 g.f2) := g2
        have ycm0 : W.drew.cell? ⟨w.heap.size + 1, 0, none⟩ = some (.int .i64 (D : Int)) := cm0
        have ycm1 : W.drew.cell? ⟨w.heap.size + 1, 1, none⟩ = some (.int .i64 (C : Int)) := cm1
        have ycm2 : W.drew.cell? ⟨w.heap.size + 1, 2, none⟩ = some (.slice (some ⟨h, o, none⟩) N cq) := cm2
        refine wp_region_x (fun w' => w'.cell? ⟨w.heap.size, 0, none⟩ = some (.int .i64 (n : Int)) ∧ w'.cell? ⟨w.heap.size, 1, none⟩ = some (.slice (some ⟨ga, go, none⟩) m c1) ∧ w'.cell? ⟨wr.heap.size, 0, none⟩ = some (.int .i64 g.f0) ∧ w'.cell? ⟨wr.heap.size, 1, none⟩ = some (.int .i64 g.f1) ∧ w'.cell? ⟨wr.heap.size, 2, none⟩ = some (.int .i64 g.f2) ∧ w'.cell? ⟨w.heap.size + 1, 0, none⟩ = some (.int .i64 (D : Int)) ∧ w'.cell? ⟨w.heap.size + 1, 1, none⟩ = some (.int .i64 (C : Int)) ∧ w'.cell? ⟨w.heap.size + 1, 2, none⟩ = some (.slice (some ⟨h, o, none⟩) N cq)) 7 (by kernel_rfl) ⟨ycc0, ycc1, yg0, yg1, yg2, ycm0, ycm1, ycm2⟩ (fun hS0 => ?_)
        refine wpAnyX_take (i := 0) (oi := _) (v := ?_) rfl (by kernel_rfl) (by kernel_rfl) (by kernel_rfl) (by kernel_rfl) (fun _ _ _ h => h) (Or.inl ⟨by rfl, ?_⟩) hS0 ?_
        rotate_left 1
        · (intro w hSw; (try dsimp only at hSw); go_simp; (try with_reducible rfl))
        try simp only [Act.put, List.setIfInBounds_toArray, List.set_cons_zero, List.set_cons_succ]
        refine wpAnyX_take (i := 1) (oi := _) (v := ?_) rfl (by kernel_rfl) (by kernel_rfl) (by kernel_rfl) (by kernel_rfl) (fun _ _ _ h => h) (Or.inl ⟨by rfl, ?_⟩) hS0 ?_
        rotate_left 1
        · (intro w hSw; (try dsimp only at hSw); go_simp; (try with_reducible rfl))
        try simp only [Act.put, List.setIfInBounds_toArray, List.set_cons_zero, List.set_cons_succ]
        refine wpAnyX_take (i := 2) (oi := _) (v := ?_) rfl (by kernel_rfl) (by kernel_rfl) (by kernel_rfl) (by kernel_rfl) (fun _ _ _ h => h) (Or.inl ⟨by rfl, ?_⟩) hS0 ?_
        rotate_left 1
        · (intro w hSw; (try dsimp only at hSw); go_simp; (try with_reducible rfl))
        try simp only [Act.put, List.setIfInBounds_toArray, List.set_cons_zero, List.set_cons_succ]
        refine wpAnyX_take (i := 3) (oi := _) (v := ?_) rfl (by kernel_rfl) (by kernel_rfl) (by kernel_rfl) (by kernel_rfl) (fun _ _ _ h => h) (Or.inl ⟨by rfl, ?_⟩) hS0 ?_
        rotate_left 1
        · (intro w hSw; (try dsimp only at hSw); go_simp; (try with_reducible rfl))
        try simp only [Act.put, List.setIfInBounds_toArray, List.set_cons_zero, List.set_cons_succ]
        refine wpAnyX_take (i := 5) (oi := _) (v := ?_) rfl (by kernel_rfl) (by kernel_rfl) (by kernel_rfl) (by kernel_rfl) (fun _ _ _ h => h) (Or.inl ⟨by rfl, ?_⟩) hS0 ?_
        rotate_left 1
        · (intro w hSw; (try dsimp only at hSw); go_simp; (try with_reducible rfl))
        try simp only [Act.put, List.setIfInBounds_toArray, List.set_cons_zero, List.set_cons_succ]
        refine wpAnyX_one (i := 4) (o := _) rfl (by kernel_rfl) (fun K hK => ?_)
        go_simp
        refine (lg_g (D := D) (NN := D * D) HV.out HD.out rfl).mono ?_
        rintro ee w8 ⟨gb, cq8, rfl, hR8, hg8, hb80⟩
        have hb8 := undrewK hb80
        have hz8 := hb8.size
        (try simp only [World.size_drew] at hg8)
        obtain ⟨gb', ob', eb, lgb⟩ := hR8.nz (by rw [gmt, tab_len]; exact Nat.mul_pos (by omega) (by omega))
        obtain ⟨rfl, rfl⟩ : gb = gb' ∧ 0 = ob' := by simpa using eb
        clear eb
        refine hK.out _ _ (fun _ => ?_) (fun hS1 => ?_)
        · exact ⟨kc hb80 (hS0.1), kc hb80 (hS0.2.1), kc hb80 (hS0.2.2.1), kc hb80 (hS0.2.2.2.1), kc hb80 (hS0.2.2.2.2.1), kc hb80 (hS0.2.2.2.2.2.1), kc hb80 (hS0.2.2.2.2.2.2.1), kc hb80 (hS0.2.2.2.2.2.2.2)⟩
        clear hK K
        have hS1 := hS1 (by decide)
        try simp only [Act.put, List.setIfInBounds_toArray, List.set_cons_zero, List.set_cons_succ]
        refine wpAnyX_one (i := 6) (o := _) rfl (by kernel_rfl) (fun K hK => ?_)
        go_simp
        refine (mumo (ra := D) (ca := D) (cb := C) (g0 := gb) (h0 := h) (o0 := o) (n := D * D) (m := N) (N := N) (gc := gc) (xs := gmt n D g) (ys := ys) hR8 (HR.out.mono hb8) (by rw [gmt, tab_len]) HL.out (gmt_okM DD.out (vg_nat HV.out).1) HZ0.out.2 EN.out (Xf.out.mono hb8) (by omega) hhc).mono ?_
        rintro ee w9 ⟨z', zs, Bo, cq', rfl, hS, hRd, hBa, hb9⟩
        have hz9 := bad_size hb9
        obtain ⟨h', o', rfl, lh'⟩ := hRd.nz (by rw [hS.1]; exact nz)
        have hh' : w8.heap.size ≤ h' := hBa _ rfl
        refine hK.out _ _ (fun _ => ?_) (fun hS2 => ?_)
        · exact ⟨kbad hb9 (by omega) (hS1.1), kbad hb9 (by omega) (hS1.2.1), kbad hb9 (by omega) (hS1.2.2.1), kbad hb9 (by omega) (hS1.2.2.2.1), kbad hb9 (by omega) (hS1.2.2.2.2.1), kbad hb9 (by omega) (hS1.2.2.2.2.2.1), kbad hb9 (by omega) (hS1.2.2.2.2.2.2.1), kbad hb9 (by omega) (hS1.2.2.2.2.2.2.2)⟩
        clear hK K
        have hS2 := hS2 (by decide)
        try simp only [Act.put, List.setIfInBounds_toArray, List.set_cons_zero, List.set_cons_succ]
        refine wpAnyX_one (i := 7) (o := _) rfl (by kernel_rfl) (fun K hK => ?_)
        have Xm9 := (Xm.out.mono hb8).badly hb9 (by omega)
        have e0 := Xm9.c 0 rfl
        have e1 := Xm9.c 1 rfl
        have e2 := Xm9.c 2 rfl
        have ef := Xm9.f
        have el := Xm9.lt
        go_simp
        refine hK.out _ _ (fun h => absurd rfl h) (fun _ => ?_)
        clear hK K
        try simp only [Act.put, List.setIfInBounds_toArray, List.set_cons_zero, List.set_cons_succ]
        refine wpAnyX_done (by kernel_rfl) ?_ _
        have hst := apl_take HGJ.out HZ0.out.1
        have HST := hid hst
        have HS := hid hS
        have HRd := hid hRd
        have hw8 : Below w.heap.size (w.setCell ⟨gc, 0, none⟩ (.bool false)) w8 := chain HBW.out hb8 (by have := HBW.out.size; rw [World.size_setCell] at this; exact this)
        have hw9 := bad_step hw8 hgc hb9 (by omega)
        have HW9 := hid hw9
        have R1 := (Xc.out.mono hb8).badly hb9 (by omega)
        have R3 := (Xz.out.mono hb8).badly hb9 (by omega)
        have R4 := (Xf.out.mono hb8).bad hb9
        clear hst hS hRd hBa hw8 hw9
        go_wp2_with (fail)
        go_roundg m9
        case measure => omega
        case rel =>
          refine ⟨j + 1, h', o', cq', z', zs, by omega, by go_num, ?_, ?_, ?_, ?_, ?_, HS.out.1, ?_, ?_, Or.inr (by omega), by omega, Or.inr (by omega), by (try simp only [World.size_setCell]); omega, ?_⟩
          · show Bx _ _ _ _
            (repeat' (first | (with_reducible exact R1) | (with_reducible refine Bx.far ?_ (by omega))))
          · show Bx _ _ _ _
            exact Bx.set (i := 2) (u := .slice (some ⟨h', o', none⟩) N cq') (Bx.set (i := 1) (u := .int .i64 (C : Int)) (Bx.set (i := 0) (u := .int .i64 (D : Int)) Xm9 rfl) rfl) rfl
          · show Bx _ _ _ _
            (repeat' (first | (with_reducible exact R3) | (with_reducible refine Bx.far ?_ (by omega))))
          · show Bx _ _ _ _
            (repeat' (first | (with_reducible exact R4) | (with_reducible refine Bx.far ?_ (by omega))))
          · show Rd _ _ _
            (repeat' (first | exact HRd.out | refine Rd.far ?_ (fun a ha => by obtain rfl := Option.some.inj ha; show h' ≠ w.heap.size + 1; omega) _))
          · show _ → _
            intro k
            have e : stB n D C g ys = false := by unfold stB; rw [← EN.out, ← HS.out.2.1]; exact k
            rw [HST.out, e, HS.out.2.2 k, EN.out]
            exact ⟨rfl, stF_okM DD.out HC.out (vg_nat HV.out).1 (okM_iff.1 HZ0.out.2).2.2.2⟩
          · show _ → _
            intro k
            have e : stB n D C g ys = true := by unfold stB; rw [← EN.out, ← HS.out.2.1]; exact k
            refine apl_none (j := j + 1) ?_
            rw [HST.out, e]; rfl
          · show Below _ _ _
            have hB9 := HW9.out
            (repeat' (first | (with_reducible assumption) | refine Below.setCell ?_ (by show w.heap.size ≤ w.heap.size + 1; omega) _))
      · have HZ1 : Hid (apl n D C gs xs = none) := hid (HZT.out rfl)
        clear HZF HZT
        go_wp2_with (fail)
        go_roundg m9
        case measure => omega
        case rel =>
          have R1 := Xc.out
          have R2 := Xm.out
          have R3 := Xz.out
          have R4 := Xf.out
          refine ⟨j + 1, h, o, cq, true, ys, by omega, by go_num, ?_, ?_, ?_, ?_, ?_, HL.out, (fun k => by cases k), (fun _ => HZ1.out), HH.out, hhc, hhb, by simp; omega, ?_⟩
          · show Bx _ _ _ _; exact R1.alloc _
          · show Bx _ _ _ _; exact R2.alloc _
          · show Bx _ _ _ _; exact R3.alloc _
          · show Bx _ _ _ _; exact R4.alloc _
          · show Rd _ _ _
            exact HR.out.mono ((Below.refl _ _).alloc (Nat.le_refl _) _)
          · show Below _ _ _
            exact HB.out.alloc (by omega) _

end Go.Proofs.Ytncgccpkbneagaa
namespace Go.Proofs.Ytncgccpkbneagaa
open Go.RowKit RM
set_option linter.unusedVariables false
set_option linter.unusedSimpArgs false
attribute [local irreducible] World.setCell

open GM
theorem okC_nat {a0 : Int} {m : Nat} {gs : List C4.GateV} (h : C4.okC a0 m gs = true) : ∃ n : Nat, a0 = (n : Int) ∧ 1 ≤ n ∧ n ≤ 5 ∧ m ≤ 400 ∧ ∀ (i : Nat) (g : C4.GateV), gs[i]? = some g → C4.vgB (n : Int) g = true := by
  obtain ⟨h1, h2, h3, h4⟩ := C4.okC_iff.1 h
  obtain ⟨n, rfl⟩ : ∃ n : Nat, a0 = (n : Int) := ⟨a0.toNat, by omega⟩
  refine ⟨n, rfl, by omega, by omega, h3, fun i g hg => ?_⟩
  unfold C4.vgB
  rw [C4.inB_t h1 h2, Bool.true_and]
  exact h4 i g hg
/-- the operator of a circuit's gates -/
def opL (n : Nat) (gs : List C4.GateV) : Option (List D5) := apl n (2 ^ n) (2 ^ n) gs (tab (2 ^ n * 2 ^ n) (unitP (2 ^ n) (2 ^ n)))

set_option maxRecDepth 100000 in
set_option maxHeartbeats 4000000 in
theorem op_s_f {a0 : Int} {A : Option Addr} {m c1 : Nat} {gs : List C4.GateV} {w : World} (hA : C4.Rd C4.gateE w A gs) (hm : gs.length = m) (hmx : m ≤ maxLen) (hok : C4.okC a0 m gs = false) :
    Calls Try.prog 45 #[C4.circuitV a0 A m c1] w fun ee w' => ee = .returned (mt 0 0 none 0 0 false) ∧ Below w.heap.size w w' := by
  have HA := hid hA
  have HM := hid hm
  have HO := hid hok
  have HX := hid hmx
  clear hA hm hok hmx
  go_enter Try.func45, Try.ntmps45
  go_wp2_with (fail)
  refine (C4.vcs HO.out ?_ HM.out HX.out).mono ?_
  · exact HA.out.mono (by (repeat' (first | (with_reducible exact Below.refl _ _) | (with_reducible assumption) | (with_reducible refine Below.alloc ?_ ?_ _) | (with_reducible refine Below.drew ?_) | (with_reducible refine below_drewN ?_ _) | (with_reducible refine Below.setCell ?_ ?_ _) | (with_reducible refine chain ?_ (by assumption) ?_) | omega | (simp; done) | (simp; omega))))
  rintro ee w1 ⟨rfl, hb1⟩
  obtain ⟨hc1, hf1, _⟩ := bcell hb1; have hz1 := hb1.size; (try simp at hz1); (try have hx10 : w.heap.size < w1.heap.size := (by omega)); (try have hx11 : w.heap.size + 1 < w1.heap.size := (by omega)); (try have hx12 : w.heap.size + 1 + 1 < w1.heap.size := (by omega))
  go_wp2_with (fail)
  refine bodyPost_ret (v := mt 0 0 none 0 0 false) (by first | (simp [results, Try.results45, go_sem, *]; done) | (simp (disch := (first | omega | (simp; done) | (simp; omega))) [results, Try.results45, go_sem, *]; done) | (simp only [results, Try.results45]; go_simp; done)) rfl ⟨rfl, ?_⟩
  (repeat' (first | (with_reducible exact Below.refl _ _) | (with_reducible assumption) | (with_reducible refine Below.alloc ?_ ?_ _) | (with_reducible refine Below.drew ?_) | (with_reducible refine below_drewN ?_ _) | (with_reducible refine Below.setCell ?_ ?_ _) | (with_reducible refine chain ?_ (by assumption) ?_) | omega | (simp; done) | (simp; omega)))

set_option maxRecDepth 100000 in
set_option maxHeartbeats 4000000 in
theorem op_i_f {a0 : Int} {A : Option Addr} {m c1 : Nat} {gs : List C4.GateV} {w : World} (hA : C4.Rd C4.gateE w A gs) (hm : gs.length = m) (hmx : m ≤ maxLen) (hok : C4.okC a0 m gs = false) :
    Calls Try.prog 47 #[C4.circuitV a0 A m c1] w fun ee w' => ee = .returned (mt 0 0 none 0 0 false) ∧ Below w.heap.size w w' := by
  have HA := hid hA
  have HM := hid hm
  have HO := hid hok
  have HX := hid hmx
  clear hA hm hok hmx
  go_enter Try.func47, Try.ntmps47
  go_wp2_with (fail)
  refine (C4.vci HO.out ?_ HM.out HX.out).mono ?_
  · exact HA.out.mono (by (repeat' (first | (with_reducible exact Below.refl _ _) | (with_reducible assumption) | (with_reducible refine Below.alloc ?_ ?_ _) | (with_reducible refine Below.drew ?_) | (with_reducible refine below_drewN ?_ _) | (with_reducible refine Below.setCell ?_ ?_ _) | (with_reducible refine chain ?_ (by assumption) ?_) | omega | (simp; done) | (simp; omega))))
  rintro ee w1 ⟨rfl, hb1⟩
  obtain ⟨hc1, hf1, _⟩ := bcell hb1; have hz1 := hb1.size; (try simp at hz1); (try have hx10 : w.heap.size < w1.heap.size := (by omega)); (try have hx11 : w.heap.size + 1 < w1.heap.size := (by omega)); (try have hx12 : w.heap.size + 1 + 1 < w1.heap.size := (by omega))
  go_wp2_with (fail)
  refine bodyPost_ret (v := mt 0 0 none 0 0 false) (by first | (simp [results, Try.results47, go_sem, *]; done) | (simp (disch := (first | omega | (simp; done) | (simp; omega))) [results, Try.results47, go_sem, *]; done) | (simp only [results, Try.results47]; go_simp; done)) rfl ⟨rfl, ?_⟩
  (repeat' (first | (with_reducible exact Below.refl _ _) | (with_reducible assumption) | (with_reducible refine Below.alloc ?_ ?_ _) | (with_reducible refine Below.drew ?_) | (with_reducible refine below_drewN ?_ _) | (with_reducible refine Below.setCell ?_ ?_ _) | (with_reducible refine chain ?_ (by assumption) ?_) | omega | (simp; done) | (simp; omega)))

set_option maxRecDepth 100000 in
set_option maxHeartbeats 8000000 in
theorem op_i_t {n m c1 : Nat} {A : Option Addr} {gs : List C4.GateV} {w : World} (hA : C4.Rd C4.gateE w A gs) (hm : gs.length = m) (hok : C4.okC (n : Int) m gs = true) :
    Calls Try.prog 47 #[C4.circuitV (n : Int) A m c1] w fun ee w' => (opL n gs = none → ee = .returned (mt 0 0 none 0 0 false)) ∧ (∀ zs, opL n gs = some zs → ∃ h : Nat, ee = .returned (mt ((2 ^ n : Nat) : Int) ((2 ^ n : Nat) : Int) (some ⟨h, 0, none⟩) (2 ^ n * 2 ^ n) (2 ^ n * 2 ^ n) true) ∧ Bk w' h 37 zs ∧ w.heap.size ≤ h) ∧ Below w.heap.size w w' := by
  obtain ⟨n', hn', h1, h5, hm4, hG⟩ := okC_nat hok
  obtain rfl : n = n' := by omega
  obtain ⟨D, hD⟩ : ∃ D, D = 2 ^ n := ⟨_, rfl⟩
  obtain ⟨d2, d32, dw, dw2, dd⟩ := pow_dim h1 h5 hD
  obtain ⟨NN, hNN⟩ : ∃ NN, NN = D * D := ⟨_, rfl⟩
  have nn5 : NN ≤ 1024 := by rw [hNN]; exact Nat.mul_le_mul d32 d32
  have hr : opL n gs = apl n D D gs (tab NN (unitP D D)) := by unfold opL; rw [hNN, hD]
  rw [hr, ← hD, ← hNN]
  have hmx : m ≤ maxLen := by unfold maxLen; omega
  have n5 : (n : Int) ≤ 5 := by omega
  have uok : okM (D : Int) (D : Int) NN (tab NN (unitP D D)) = true := okM_iff.2 ⟨dd, dd, by rw [hNN]; simp, unit_ok D⟩
  have HA := hid hA
  have HM := hid hm
  have HO := hid hok
  have HX := hid hmx
  have HD := hid hD
  have EQ := hid hNN
  have DD := hid dd
  have HG := hid hG
  have UOK := hid uok
  clear hA hm hok hmx hD hNN dd hG uok hr hn'
  go_enter Try.func47, Try.ntmps47
  go_wp2_with (fail)
  refine (C4.vci HO.out ?_ HM.out HX.out).mono ?_
  · exact HA.out.mono (by (repeat' (first | (with_reducible exact Below.refl _ _) | (with_reducible assumption) | (with_reducible refine Below.alloc ?_ ?_ _) | (with_reducible refine Below.drew ?_) | (with_reducible refine below_drewN ?_ _) | (with_reducible refine Below.setCell ?_ ?_ _) | (with_reducible refine chain ?_ (by assumption) ?_) | omega | (simp; done) | (simp; omega))))
  rintro ee w1 ⟨rfl, hb1⟩
  have Xc1 : Bx w1 (w.heap.size) 69 #[.int .i64 (n : Int), .slice A m c1] := by (repeat' (first | (with_reducible assumption) | (refine Bx.new (by first | (with_reducible rfl) | (simp; done))) | (with_reducible refine Bx.alloc ?_ _) | (with_reducible refine Bx.drew ?_) | (with_reducible refine Bx.drewN ?_ _) | (with_reducible refine Bx.mono ?_ (by assumption)) | (with_reducible refine Bx.badly ?_ (by assumption) (by omega)) | (with_reducible refine Bx.far ?_ (by (try simp only [World.size_alloc, World.size_drew]); omega)) | (with_reducible refine Bx.set ?_ rfl) | (with_reducible refine Bx.grown ?_ (by assumption) (by assumption))))
  have Xz1 : Bx w1 (w.heap.size + 1) 26 #[.int .i64 0, .int .i64 0, .slice none 0 0] := by (repeat' (first | (with_reducible assumption) | (refine Bx.new (by first | (with_reducible rfl) | (simp; done))) | (with_reducible refine Bx.alloc ?_ _) | (with_reducible refine Bx.drew ?_) | (with_reducible refine Bx.drewN ?_ _) | (with_reducible refine Bx.mono ?_ (by assumption)) | (with_reducible refine Bx.badly ?_ (by assumption) (by omega)) | (with_reducible refine Bx.far ?_ (by (try simp only [World.size_alloc, World.size_drew]); omega)) | (with_reducible refine Bx.set ?_ rfl) | (with_reducible refine Bx.grown ?_ (by assumption) (by assumption))))
  have hz1 := hb1.size
  (try simp only [World.size_alloc] at hz1)
  have hw1 : Below w.heap.size w w1 := by (repeat' (first | (with_reducible exact Below.refl _ _) | (with_reducible assumption) | (with_reducible refine Below.alloc ?_ ?_ _) | (with_reducible refine Below.drew ?_) | (with_reducible refine below_drewN ?_ _) | (with_reducible refine Below.setCell ?_ ?_ _) | (with_reducible refine chain ?_ (by assumption) ?_) | omega | (simp; done) | (simp; omega)))
  have c0 := Xc1.c 0 rfl
  have c1' := Xc1.c 1 rfl
  have lc := Xc1.lt
  clear hb1
  go_wp2_with (fail)
  refine (id_i_t (N := D) (n := NN) DD.out EQ.out (by omega) d32 nn5).mono ?_
  rintro ee w2 ⟨g, rfl, hK2, hg2, hb2⟩
  have Xc2 := Xc1.mono hb2
  have Xz2 := Xz1.mono hb2
  have hz2 := hb2.size
  have hlg := hK2.lt
  have hw2 : Below w.heap.size w w2 := chain hw1 hb2 hw1.size
  have HK2 := hid hK2
  clear hK2 hb2 c0 c1' lc Xc1 Xz1
  have c0 := Xc2.c 0 rfl
  have c1' := Xc2.c 1 rfl
  have lc := Xc2.lt
  go_wp2_with (fail)
  refine (ag_i (n := n) (D := D) (C := D) (N := NN) (m := m) (c1 := c1) (h0 := g) (A := A) (gs := gs) (xs := tab NN (unitP D D)) ?_ HM.out hm4 HG.out h1 h5 HD.out DD.out EQ.out ?_ (tab_len _ _) UOK.out).mono ?_
  · exact HA.out.mono (by (repeat' (first | (with_reducible exact Below.refl _ _) | (with_reducible assumption) | (with_reducible refine Below.alloc ?_ ?_ _) | (with_reducible refine Below.drew ?_) | (with_reducible refine below_drewN ?_ _) | (with_reducible refine Below.setCell ?_ ?_ _) | (with_reducible refine chain ?_ (by assumption) ?_) | omega | (simp; done) | (simp; omega))))
  · exact HK2.out.alloc _
  rintro ee w3 ⟨r1, r2, hb3⟩
  have Xz3 := Bx.mono (Xz2.alloc _) hb3
  have hz3 := hb3.size
  (try simp only [World.size_alloc] at hz3)
  have hw3 : Below w.heap.size w w3 := by (repeat' (first | (with_reducible exact Below.refl _ _) | (with_reducible assumption) | (with_reducible refine Below.alloc ?_ ?_ _) | (with_reducible refine Below.drew ?_) | (with_reducible refine below_drewN ?_ _) | (with_reducible refine Below.setCell ?_ ?_ _) | (with_reducible refine chain ?_ (by assumption) ?_) | omega | (simp; done) | (simp; omega)))
  have d0 := Xz3.c 0 rfl
  have d1 := Xz3.c 1 rfl
  have d2' := Xz3.c 2 rfl
  have df := Xz3.f
  have dl := Xz3.lt
  clear hb3 c0 c1' lc Xc2 Xz2
  cases hq : apl n D D gs (tab NN (unitP D D)) with
  | none =>
    obtain rfl := r1 hq
    have HQ := hid hq
    clear r1 r2 hq
    go_wp2_with (fail)
    refine bodyPost_ret (v := mt 0 0 none 0 0 false) (by first | (simp [results, Try.results47, go_sem, *]; done) | (simp (disch := (first | omega | (simp; done) | (simp; omega))) [results, Try.results47, go_sem, *]; done) | (simp only [results, Try.results47]; go_simp; done)) rfl ⟨fun _ => rfl, fun zs k => ?_, ?_⟩
    · rw [HQ.out] at k; cases k
    · (repeat' (first | (with_reducible exact Below.refl _ _) | (with_reducible assumption) | (with_reducible refine Below.alloc ?_ ?_ _) | (with_reducible refine Below.drew ?_) | (with_reducible refine below_drewN ?_ _) | (with_reducible refine Below.setCell ?_ ?_ _) | (with_reducible refine chain ?_ (by assumption) ?_) | omega | (simp; done) | (simp; omega)))
  | some zs =>
    obtain ⟨h, rfl, hK, hh⟩ := r2 zs hq
    have HQ := hid hq
    have HK := hid hK
    have hhl := hK.lt
    (try simp only [World.size_alloc] at hh)
    clear r1 r2 hq hK
    go_wp2_with (fail)
    refine bodyPost_ret (v := mt (D : Int) (D : Int) (some ⟨h, 0, none⟩) NN NN true) (by first | (simp [results, Try.results47, go_sem, *]; done) | (simp (disch := (first | omega | (simp; done) | (simp; omega))) [results, Try.results47, go_sem, *]; done) | (simp only [results, Try.results47]; go_simp; done)) rfl ⟨fun k => ?_, fun zs k => ?_, ?_⟩
    · rw [HQ.out] at k; cases k
    · rw [HQ.out] at k
      obtain rfl := Option.some.inj k
      refine ⟨h, rfl, ?_, by omega⟩
      (repeat' (first | exact HK.out | refine Bk.far ?_ (by show h ≠ w.heap.size + 1; omega) _))
    · (repeat' (first | (with_reducible exact Below.refl _ _) | (with_reducible assumption) | (with_reducible refine Below.alloc ?_ ?_ _) | (with_reducible refine Below.drew ?_) | (with_reducible refine below_drewN ?_ _) | (with_reducible refine Below.setCell ?_ ?_ _) | (with_reducible refine chain ?_ (by assumption) ?_) | omega | (simp; done) | (simp; omega)))

end Go.Proofs.Ytncgccpkbneagaa
namespace Go.Proofs.Ytncgccpkbneagaa
open Go.RowKit RM
set_option linter.unusedVariables false
set_option linter.unusedSimpArgs false
attribute [local irreducible] World.setCell

open GM
set_option maxRecDepth 100000 in
set_option maxHeartbeats 8000000 in
theorem op_s_t {n m c1 : Nat} {A : Option Addr} {gs : List C4.GateV} {w : World} (hA : C4.Rd C4.gateE w A gs) (hm : gs.length = m) (hok : C4.okC (n : Int) m gs = true) (hAb : ∀ a, A = some a → a.block < w.heap.size) :
    Calls Try.prog 45 #[C4.circuitV (n : Int) A m c1] w fun ee w' => (opL n gs = none → ee = .returned (mt 0 0 none 0 0 false)) ∧ (∀ zs, opL n gs = some zs → ∃ (Bo : Option Addr) (cq : Nat), ee = .returned (mt ((2 ^ n : Nat) : Int) ((2 ^ n : Nat) : Int) Bo (2 ^ n * 2 ^ n) cq true) ∧ Rd w' Bo zs ∧ (∀ a, Bo = some a → w.heap.size ≤ a.block)) ∧ Below w.heap.size w w' := by
  obtain ⟨n', hn', h1, h5, hm4, hG⟩ := okC_nat hok
  obtain rfl : n = n' := by omega
  obtain ⟨D, hD⟩ : ∃ D, D = 2 ^ n := ⟨_, rfl⟩
  obtain ⟨d2, d32, dw, dw2, dd⟩ := pow_dim h1 h5 hD
  obtain ⟨NN, hNN⟩ : ∃ NN, NN = D * D := ⟨_, rfl⟩
  have nn5 : NN ≤ 1024 := by rw [hNN]; exact Nat.mul_le_mul d32 d32
  have hr : opL n gs = apl n D D gs (tab NN (unitP D D)) := by unfold opL; rw [hNN, hD]
  rw [hr, ← hD, ← hNN]
  have hmx : m ≤ maxLen := by unfold maxLen; omega
  have n5 : (n : Int) ≤ 5 := by omega
  have uok : okM (D : Int) (D : Int) NN (tab NN (unitP D D)) = true := okM_iff.2 ⟨dd, dd, by rw [hNN]; simp, unit_ok D⟩
  have HA := hid hA
  have HM := hid hm
  have HO := hid hok
  have HX := hid hmx
  have HD := hid hD
  have EQ := hid hNN
  have DD := hid dd
  have HG := hid hG
  have UOK := hid uok
  have HAB := hid hAb
  clear hA hm hok hmx hD hNN dd hG uok hr hn' hAb
  go_enter Try.func45, Try.ntmps45
  go_wp2_with (fail)
  refine (C4.vcs HO.out ?_ HM.out HX.out).mono ?_
  · exact HA.out.mono (by (repeat' (first | (with_reducible exact Below.refl _ _) | (with_reducible assumption) | (with_reducible refine Below.alloc ?_ ?_ _) | (with_reducible refine Below.drew ?_) | (with_reducible refine below_drewN ?_ _) | (with_reducible refine Below.setCell ?_ ?_ _) | (with_reducible refine chain ?_ (by assumption) ?_) | omega | (simp; done) | (simp; omega))))
  rintro ee w1 ⟨rfl, hb1⟩
  have Xc1 : Bx w1 (w.heap.size) 69 #[.int .i64 (n : Int), .slice A m c1] := by (repeat' (first | (with_reducible assumption) | (refine Bx.new (by first | (with_reducible rfl) | (simp; done))) | (with_reducible refine Bx.alloc ?_ _) | (with_reducible refine Bx.drew ?_) | (with_reducible refine Bx.drewN ?_ _) | (with_reducible refine Bx.mono ?_ (by assumption)) | (with_reducible refine Bx.badly ?_ (by assumption) (by omega)) | (with_reducible refine Bx.far ?_ (by (try simp only [World.size_alloc, World.size_drew]); omega)) | (with_reducible refine Bx.set ?_ rfl) | (with_reducible refine Bx.grown ?_ (by assumption) (by assumption))))
  have Xz1 : Bx w1 (w.heap.size + 1) 26 #[.int .i64 0, .int .i64 0, .slice none 0 0] := by (repeat' (first | (with_reducible assumption) | (refine Bx.new (by first | (with_reducible rfl) | (simp; done))) | (with_reducible refine Bx.alloc ?_ _) | (with_reducible refine Bx.drew ?_) | (with_reducible refine Bx.drewN ?_ _) | (with_reducible refine Bx.mono ?_ (by assumption)) | (with_reducible refine Bx.badly ?_ (by assumption) (by omega)) | (with_reducible refine Bx.far ?_ (by (try simp only [World.size_alloc, World.size_drew]); omega)) | (with_reducible refine Bx.set ?_ rfl) | (with_reducible refine Bx.grown ?_ (by assumption) (by assumption))))
  have hz1 := hb1.size
  (try simp only [World.size_alloc] at hz1)
  have hw1 : Below w.heap.size w w1 := by (repeat' (first | (with_reducible exact Below.refl _ _) | (with_reducible assumption) | (with_reducible refine Below.alloc ?_ ?_ _) | (with_reducible refine Below.drew ?_) | (with_reducible refine below_drewN ?_ _) | (with_reducible refine Below.setCell ?_ ?_ _) | (with_reducible refine chain ?_ (by assumption) ?_) | omega | (simp; done) | (simp; omega)))
  have c0 := Xc1.c 0 rfl
  have c1' := Xc1.c 1 rfl
  have lc := Xc1.lt
  clear hb1
  go_upto_region 4 with (fail)
  obtain ⟨W, hW⟩ : ∃ W : World, W = w1.alloc (.cells #[.bool false] 99) := ⟨_, rfl⟩
  have hbW : Below w1.heap.size w1 W := by rw [hW]; exact (Below.refl _ _).alloc (Nat.le_refl _) _
  have Xf : Bx W w1.heap.size 99 #[.bool false] := by rw [hW]; exact Bx.new rfl
  have hzW : w1.heap.size < W.heap.size := by rw [hW]; simp
  have hzW2 : W.heap.size ≤ w1.heap.size + 1 := by rw [hW]; simp
  rw [← hW]
  clear hW c0 c1' lc
  have Xc := Xc1.mono hbW
  have Xz := Xz1.mono hbW
  have hwW : Below w.heap.size w W := chain hw1 hbW hw1.size
  clear Xc1 Xz1
  have c0 := Xc.c 0 rfl
  have c1' := Xc.c 1 rfl
  have hAl : ∀ a, A = some a → a.block < w.heap.size := HAB.out
  have hsh : IntKind.i64.wrap (2 ^ min (IntKind.u64.wrap (n : Int)).toNat 64) = (D : Int) := by
    have hu : IntKind.u64.wrap (n : Int) = (n : Int) := by
      have : n = 1 ∨ n = 2 ∨ n = 3 ∨ n = 4 ∨ n = 5 := by omega
      rcases this with rfl | rfl | rfl | rfl | rfl <;> rfl
    rw [hu, Int.toNat_natCast, Nat.min_eq_left (by omega)]
    exact dw2
  cases hq : apl n D D gs (tab NN (unitP D D)) with
  | none =>
    have yc0 : W.drew.cell? ⟨w.heap.size, 0, none⟩ = some (.int .i64 (n : Int)) := c0
    have yc1' : W.drew.cell? ⟨w.heap.size, 1, none⟩ = some (.slice A m c1) := c1'
    refine wp_region_x (fun w' => w'.cell? ⟨w.heap.size, 0, none⟩ = some (.int .i64 (n : Int)) ∧ w'.cell? ⟨w.heap.size, 1, none⟩ = some (.slice A m c1)) 1000 (by kernel_rfl) ⟨yc0, yc1'⟩ (fun hS0 => ?_)
    refine wpAnyX_take (i := 0) (oi := _) (v := ?_) rfl (by kernel_rfl) (by kernel_rfl) (by kernel_rfl) (by kernel_rfl) (fun _ _ _ h => h) (Or.inl ⟨by rfl, ?_⟩) hS0 ?_
    rotate_left 1
    · (intro w hSw; (try dsimp only at hSw); go_simp; (try with_reducible rfl))
    try simp only [Act.put, List.setIfInBounds_toArray, List.set_cons_zero, List.set_cons_succ]
    refine wpAnyX_take (i := 1) (oi := _) (v := ?_) rfl (by kernel_rfl) (by kernel_rfl) (by kernel_rfl) (by kernel_rfl) (fun _ _ _ h => h) (Or.inl ⟨by rfl, ?_⟩) hS0 ?_
    rotate_left 1
    · (intro w hSw; (try dsimp only at hSw); go_simp; (try with_reducible rfl))
    try simp only [Act.put, List.setIfInBounds_toArray, List.set_cons_zero, List.set_cons_succ]
    refine wpAnyX_take (i := 2) (oi := _) (v := ?_) rfl (by kernel_rfl) (by kernel_rfl) (by kernel_rfl) (by kernel_rfl) (fun _ _ _ h => h) (Or.inl ⟨by rfl, ?_⟩) hS0 ?_
    rotate_left 1
    · (intro w hSw; (try dsimp only at hSw); go_simp; (try with_reducible rfl))
    try simp only [Act.put, List.setIfInBounds_toArray, List.set_cons_zero, List.set_cons_succ]
    refine wpAnyX_take (i := 3) (oi := _) (v := ?_) rfl (by kernel_rfl) (by kernel_rfl) (by kernel_rfl) (by kernel_rfl) (fun _ _ _ h => h) (Or.inl ⟨by rfl, ?_⟩) hS0 ?_
    rotate_left 1
    · (intro w hSw; (try dsimp only at hSw); go_simp; (try with_reducible rfl))
    try simp only [Act.put, List.setIfInBounds_toArray, List.set_cons_zero, List.set_cons_succ]
    refine wpAnyX_take (i := 4) (oi := _) (v := ?_) rfl (by kernel_rfl) (by kernel_rfl) (by kernel_rfl) (by kernel_rfl) (fun _ _ _ h => h) (Or.inl ⟨by rfl, ?_⟩) hS0 ?_
    rotate_left 1
    · (intro w hSw; (try dsimp only at hSw); go_simp; (try with_reducible rfl))
    try simp only [Act.put, List.setIfInBounds_toArray, List.set_cons_zero, List.set_cons_succ]
    refine wpAnyX_take (i := 5) (oi := _) (v := ?_) rfl (by kernel_rfl) (by kernel_rfl) (by kernel_rfl) (by kernel_rfl) (fun _ _ _ h => h) (Or.inl ⟨by rfl, ?_⟩) hS0 ?_
    rotate_left 1
    · (intro w hSw; (try dsimp only at hSw); go_simp; (try with_reducible rfl))
    try simp only [Act.put, List.setIfInBounds_toArray, List.set_cons_zero, List.set_cons_succ]
    refine wpAnyX_take (i := 6) (oi := _) (v := ?_) rfl (by kernel_rfl) (by kernel_rfl) (by kernel_rfl) (by kernel_rfl) (fun _ _ _ h => h) (Or.inl ⟨by rfl, ?_⟩) hS0 ?_
    rotate_left 1
    · (intro w hSw; (try dsimp only at hSw); go_simp; (try with_reducible rfl))
    try simp only [Act.put, List.setIfInBounds_toArray, List.set_cons_zero, List.set_cons_succ]
    refine wpAnyX_one (i := 7) (o := _) rfl (by kernel_rfl) (fun K hK => ?_)
    go_simp
    (try simp only [hsh])
    refine (unit_s (N := D) (n := NN) EQ.out (by omega) d32 nn5).mono ?_
    rintro ee w2 ⟨rfl, hK2, hb20⟩
    have hb2 := undrewK hb20
    have hz2 := hb2.size
    (try simp only [World.size_drew] at hK2)
    refine hK.out _ _ (fun _ => ?_) (fun hS1 => ?_)
    · exact ⟨kc hb20 (hS0.1), kc hb20 (hS0.2)⟩
    clear hK K
    have hS1 := hS1 (by decide)
    try simp only [Act.put, List.setIfInBounds_toArray, List.set_cons_zero, List.set_cons_succ]
    refine wpAnyX_one (i := 8) (o := _) rfl (by kernel_rfl) (fun K hK => ?_)
    go_simp
    refine (lrun (n := n) (D := D) (C := D) (N := NN) (m := m) (c1 := c1) (A := A) (gs := gs) (gc := w1.heap.size) (xs := tab NN (unitP D D)) (HA.out.mono (chain hwW hb2 hwW.size)) (fun a ha => by have := (hAl a ha); omega) HM.out hm4 HG.out h1 h5 HD.out DD.out EQ.out hK2.rd (by (try simp only [World.size_drew]); omega) (by have := hK2.lt; (try simp only [World.size_drew] at this ⊢); omega) (tab_len _ _) UOK.out (Xf.mono hb2)).mono ?_
    rintro ee w3 ⟨z, zs, h, o, cq, rfl, hl, hzf, hzt, hR3, hh3, hb3⟩
    have hz3 := bad_size hb3
    have Xf3 := (Xf.mono hb2).bad hb3
    obtain rfl : z = true := by
      cases z
      · rw [hzf rfl] at hq; cases hq
      · rfl
    have f0 := Xf3.c 0 rfl
    have lf3 := Xf3.lt
    refine hK.out _ _ (fun _ => ?_) (fun hS2 => ?_)
    · exact ⟨kbad hb3 (by omega) (hS1.1), kbad hb3 (by omega) (hS1.2)⟩
    clear hK K
    have hS2 := hS2 (by decide)
    try simp only [Act.put, List.setIfInBounds_toArray, List.set_cons_zero, List.set_cons_succ]
    refine wpAnyX_one (i := 9) (o := _) rfl (by kernel_rfl) (fun K hK => ?_)
    go_simp
    refine (cmat_t f0).mono ?_
    rintro ee w4 ⟨rfl, hb4⟩
    have hz4 := hb4.size
    refine hK.out _ _ (fun _ => ?_) (fun hS3 => ?_)
    · exact ⟨kc hb4 (hS2.1), kc hb4 (hS2.2)⟩
    clear hK K
    have hS3 := hS3 (by decide)
    try simp only [Act.put, List.setIfInBounds_toArray, List.set_cons_zero, List.set_cons_succ]
    refine wpAnyX_take (i := 10) (oi := _) (v := ?_) rfl (by kernel_rfl) (by kernel_rfl) (by kernel_rfl) (by kernel_rfl) (fun _ _ _ h => h) (Or.inl ⟨by rfl, ?_⟩) hS3 ?_
    rotate_left 1
    · (intro w hSw; (try dsimp only at hSw); go_simp; (try with_reducible rfl))
    try simp only [Act.put, List.setIfInBounds_toArray, List.set_cons_zero, List.set_cons_succ]
    refine wpAnyX_take (i := 11) (oi := _) (v := ?_) rfl (by kernel_rfl) (by kernel_rfl) (by kernel_rfl) (by kernel_rfl) (fun _ _ _ h => h) (Or.inl ⟨by rfl, ?_⟩) hS3 ?_
    rotate_left 1
    · (intro w hSw; (try dsimp only at hSw); go_simp; (try with_reducible rfl))
    try simp only [Act.put, List.setIfInBounds_toArray, List.set_cons_zero, List.set_cons_succ]
    refine wpAnyX_one (i := 12) (o := _) rfl (by kernel_rfl) (fun K hK => ?_)
    have Xz4 := ((Xz.mono hb2).badly hb3 (by omega)).mono hb4
    have e0 := Xz4.c 0 rfl
    have e1 := Xz4.c 1 rfl
    have e2 := Xz4.c 2 rfl
    have ef := Xz4.f
    have el := Xz4.lt
    go_simp
    refine hK.out _ _ (fun _ => ?_) (fun hS4 => ?_)
    · first | exact ⟨kst3 (by omega) (hS3.1), kst3 (by omega) (hS3.2)⟩ | exact ⟨kc (Below.refl _ _) (hS3.1), kc (Below.refl _ _) (hS3.2)⟩
    clear hK K
    have hS4 := hS4 (by decide)
    try simp only [Act.put, List.setIfInBounds_toArray, List.set_cons_zero, List.set_cons_succ]
    refine wpAnyX_take (i := 13) (oi := _) (v := ?_) rfl (by kernel_rfl) (by kernel_rfl) (by kernel_rfl) (by kernel_rfl) (fun _ _ _ h => h) (Or.inl ⟨by rfl, ?_⟩) hS4 ?_
    rotate_left 1
    · (intro w hSw; (try dsimp only at hSw); go_simp; (try with_reducible rfl))
    change wpAnyX _ _ _ _ _ _ _ _ (Act.put _ (some 3) _) _
    try simp only [Act.put, List.setIfInBounds_toArray, List.set_cons_zero, List.set_cons_succ]
    refine wpAnyX_done (by kernel_rfl) ?_ _
    have hB2 : Below w.heap.size w w2 := chain hwW hb2 hwW.size
    have hB3 : Below w.heap.size w w3 := bad_below hB2 hb3 (by omega)
    have hB4 : Below w.heap.size w w4 := chain hB3 hb4 hB3.size
    have HQ := hid hq
    clear hzf hzt hR3 hb3 hb4 hq
    go_wp2_with fail
    refine bodyPost_ret (v := mt 0 0 none 0 0 false) (by first | (simp [results, Try.results45, go_sem, *]; done) | (simp (disch := (first | omega | (simp; done) | (simp; omega))) [results, Try.results45, go_sem, *]; done) | (simp only [results, Try.results45]; go_simp; done)) rfl ⟨fun _ => rfl, fun zs k => ?_, ?_⟩
    · rw [HQ.out] at k; cases k
    · (repeat' (first | (with_reducible exact Below.refl _ _) | (with_reducible assumption) | (with_reducible refine Below.alloc ?_ ?_ _) | (with_reducible refine Below.drew ?_) | (with_reducible refine below_drewN ?_ _) | (with_reducible refine Below.setCell ?_ ?_ _) | (with_reducible refine chain ?_ (by assumption) ?_) | omega | (simp; done) | (simp; omega)))
  | some ys =>
    have yc0 : W.drew.cell? ⟨w.heap.size, 0, none⟩ = some (.int .i64 (n : Int)) := c0
    have yc1' : W.drew.cell? ⟨w.heap.size, 1, none⟩ = some (.slice A m c1) := c1'
    refine wp_region_x (fun w' => w'.cell? ⟨w.heap.size, 0, none⟩ = some (.int .i64 (n : Int)) ∧ w'.cell? ⟨w.heap.size, 1, none⟩ = some (.slice A m c1)) 1000 (by kernel_rfl) ⟨yc0, yc1'⟩ (fun hS0 => ?_)
    refine wpAnyX_take (i := 0) (oi := _) (v := ?_) rfl (by kernel_rfl) (by kernel_rfl) (by kernel_rfl) (by kernel_rfl) (fun _ _ _ h => h) (Or.inl ⟨by rfl, ?_⟩) hS0 ?_
    rotate_left 1
    · (intro w hSw; (try dsimp only at hSw); go_simp; (try with_reducible rfl))
    try simp only [Act.put, List.setIfInBounds_toArray, List.set_cons_zero, List.set_cons_succ]
    refine wpAnyX_take (i := 1) (oi := _) (v := ?_) rfl (by kernel_rfl) (by kernel_rfl) (by kernel_rfl) (by kernel_rfl) (fun _ _ _ h => h) (Or.inl ⟨by rfl, ?_⟩) hS0 ?_
    rotate_left 1
    · (intro w hSw; (try dsimp only at hSw); go_simp; (try with_reducible rfl))
    try simp only [Act.put, List.setIfInBounds_toArray, List.set_cons_zero, List.set_cons_succ]
    refine wpAnyX_take (i := 2) (oi := _) (v := ?_) rfl (by kernel_rfl) (by kernel_rfl) (by kernel_rfl) (by kernel_rfl) (fun _ _ _ h => h) (Or.inl ⟨by rfl, ?_⟩) hS0 ?_
    rotate_left 1
    · (intro w hSw; (try dsimp only at hSw); go_simp; (try with_reducible rfl))
    try simp only [Act.put, List.setIfInBounds_toArray, List.set_cons_zero, List.set_cons_succ]
    refine wpAnyX_take (i := 3) (oi := _) (v := ?_) rfl (by kernel_rfl) (by kernel_rfl) (by kernel_rfl) (by kernel_rfl) (fun _ _ _ h => h) (Or.inl ⟨by rfl, ?_⟩) hS0 ?_
    rotate_left 1
    · (intro w hSw; (try dsimp only at hSw); go_simp; (try with_reducible rfl))
    try simp only [Act.put, List.setIfInBounds_toArray, List.set_cons_zero, List.set_cons_succ]
    refine wpAnyX_take (i := 4) (oi := _) (v := ?_) rfl (by kernel_rfl) (by kernel_rfl) (by kernel_rfl) (by kernel_rfl) (fun _ _ _ h => h) (Or.inl ⟨by rfl, ?_⟩) hS0 ?_
    rotate_left 1
    · (intro w hSw; (try dsimp only at hSw); go_simp; (try with_reducible rfl))
    try simp only [Act.put, List.setIfInBounds_toArray, List.set_cons_zero, List.set_cons_succ]
    refine wpAnyX_take (i := 5) (oi := _) (v := ?_) rfl (by kernel_rfl) (by kernel_rfl) (by kernel_rfl) (by kernel_rfl) (fun _ _ _ h => h) (Or.inl ⟨by rfl, ?_⟩) hS0 ?_
    rotate_left 1
    · (intro w hSw; (try dsimp only at hSw); go_simp; (try with_reducible rfl))
    try simp only [Act.put, List.setIfInBounds_toArray, List.set_cons_zero, List.set_cons_succ]
    refine wpAnyX_take (i := 6) (oi := _) (v := ?_) rfl (by kernel_rfl) (by kernel_rfl) (by kernel_rfl) (by kernel_rfl) (fun _ _ _ h => h) (Or.inl ⟨by rfl, ?_⟩) hS0 ?_
    rotate_left 1
    · (intro w hSw; (try dsimp only at hSw); go_simp; (try with_reducible rfl))
    try simp only [Act.put, List.setIfInBounds_toArray, List.set_cons_zero, List.set_cons_succ]
    refine wpAnyX_one (i := 7) (o := _) rfl (by kernel_rfl) (fun K hK => ?_)
    go_simp
    (try simp only [hsh])
    refine (unit_s (N := D) (n := NN) EQ.out (by omega) d32 nn5).mono ?_
    rintro ee w2 ⟨rfl, hK2, hb20⟩
    have hb2 := undrewK hb20
    have hz2 := hb2.size
    (try simp only [World.size_drew] at hK2)
    refine hK.out _ _ (fun _ => ?_) (fun hS1 => ?_)
    · exact ⟨kc hb20 (hS0.1), kc hb20 (hS0.2)⟩
    clear hK K
    have hS1 := hS1 (by decide)
    try simp only [Act.put, List.setIfInBounds_toArray, List.set_cons_zero, List.set_cons_succ]
    refine wpAnyX_one (i := 8) (o := _) rfl (by kernel_rfl) (fun K hK => ?_)
    go_simp
    refine (lrun (n := n) (D := D) (C := D) (N := NN) (m := m) (c1 := c1) (A := A) (gs := gs) (gc := w1.heap.size) (xs := tab NN (unitP D D)) (HA.out.mono (chain hwW hb2 hwW.size)) (fun a ha => by have := (hAl a ha); omega) HM.out hm4 HG.out h1 h5 HD.out DD.out EQ.out hK2.rd (by (try simp only [World.size_drew]); omega) (by have := hK2.lt; (try simp only [World.size_drew] at this ⊢); omega) (tab_len _ _) UOK.out (Xf.mono hb2)).mono ?_
    rintro ee w3 ⟨z, zs, h, o, cq, rfl, hl, hzf, hzt, hR3, hh3, hb3⟩
    have hz3 := bad_size hb3
    have Xf3 := (Xf.mono hb2).bad hb3
    obtain rfl : z = false := by
      cases z
      · rfl
      · rw [hzt rfl] at hq; cases hq
    have f0 := Xf3.c 0 rfl
    have lf3 := Xf3.lt
    refine hK.out _ _ (fun _ => ?_) (fun hS2 => ?_)
    · exact ⟨kbad hb3 (by omega) (hS1.1), kbad hb3 (by omega) (hS1.2)⟩
    clear hK K
    have hS2 := hS2 (by decide)
    try simp only [Act.put, List.setIfInBounds_toArray, List.set_cons_zero, List.set_cons_succ]
    refine wpAnyX_one (i := 9) (o := _) rfl (by kernel_rfl) (fun K hK => ?_)
    go_simp
    refine (cmat_f f0).mono ?_
    rintro ee w4 ⟨rfl, hb4⟩
    have hz4 := hb4.size
    refine hK.out _ _ (fun _ => ?_) (fun hS3 => ?_)
    · exact ⟨kc hb4 (hS2.1), kc hb4 (hS2.2)⟩
    clear hK K
    have hS3 := hS3 (by decide)
    try simp only [Act.put, List.setIfInBounds_toArray, List.set_cons_zero, List.set_cons_succ]
    refine wpAnyX_take (i := 10) (oi := _) (v := ?_) rfl (by kernel_rfl) (by kernel_rfl) (by kernel_rfl) (by kernel_rfl) (fun _ _ _ h => h) (Or.inl ⟨by rfl, ?_⟩) hS3 ?_
    rotate_left 1
    · (intro w hSw; (try dsimp only at hSw); go_simp; (try with_reducible rfl))
    try simp only [Act.put, List.setIfInBounds_toArray, List.set_cons_zero, List.set_cons_succ]
    refine wpAnyX_take (i := 11) (oi := _) (v := ?_) rfl (by kernel_rfl) (by kernel_rfl) (by kernel_rfl) (by kernel_rfl) (fun _ _ _ h => h) (Or.inl ⟨by rfl, ?_⟩) hS3 ?_
    rotate_left 1
    · (intro w hSw; (try dsimp only at hSw); go_simp; (try with_reducible rfl))
    try simp only [Act.put, List.setIfInBounds_toArray, List.set_cons_zero, List.set_cons_succ]
    refine wpAnyX_one (i := 12) (o := _) rfl (by kernel_rfl) (fun K hK => ?_)
    have Xz4 := ((Xz.mono hb2).badly hb3 (by omega)).mono hb4
    have e0 := Xz4.c 0 rfl
    have e1 := Xz4.c 1 rfl
    have e2 := Xz4.c 2 rfl
    have ef := Xz4.f
    have el := Xz4.lt
    go_simp
    refine hK.out _ _ (fun _ => ?_) (fun hS4 => ?_)
    · first | exact ⟨kst3 (by omega) (hS3.1), kst3 (by omega) (hS3.2)⟩ | exact ⟨kc (Below.refl _ _) (hS3.1), kc (Below.refl _ _) (hS3.2)⟩
    clear hK K
    have hS4 := hS4 (by decide)
    try simp only [Act.put, List.setIfInBounds_toArray, List.set_cons_zero, List.set_cons_succ]
    refine wpAnyX_take (i := 13) (oi := _) (v := ?_) rfl (by kernel_rfl) (by kernel_rfl) (by kernel_rfl) (by kernel_rfl) (fun _ _ _ h => h) (Or.inl ⟨by rfl, ?_⟩) hS4 ?_
    rotate_left 1
    · (intro w hSw; (try dsimp only at hSw); go_simp; (try with_reducible rfl))
    change wpAnyX _ _ _ _ _ _ _ _ (Act.put _ (some 3) _) _
    try simp only [Act.put, List.setIfInBounds_toArray, List.set_cons_zero, List.set_cons_succ]
    refine wpAnyX_done (by kernel_rfl) ?_ _
    have hB2 : Below w.heap.size w w2 := chain hwW hb2 hwW.size
    have hB3 : Below w.heap.size w w3 := bad_below hB2 hb3 (by omega)
    have hB4 : Below w.heap.size w w4 := chain hB3 hb4 hB3.size
    have HR4 := hid (hR3.mono hb4)
    obtain ⟨rfl⟩ : zs = ys := Option.some.inj ((hzf rfl).symm.trans hq)
    have HQ := hid hq
    clear hzf hzt hR3 hb3 hb4 hq
    go_wp2_with fail
    refine bodyPost_ret (v := mt (D : Int) (D : Int) (some ⟨h, o, none⟩) NN cq true) (by first | (simp [results, Try.results45, go_sem, *]; done) | (simp (disch := (first | omega | (simp; done) | (simp; omega))) [results, Try.results45, go_sem, *]; done) | (simp only [results, Try.results45]; go_simp; done)) rfl ⟨fun k => ?_, fun zs k => ?_, ?_⟩
    · rw [HQ.out] at k; cases k
    · rw [HQ.out] at k
      obtain rfl := Option.some.inj k
      refine ⟨some ⟨h, o, none⟩, cq, rfl, ?_, fun a ha => by obtain rfl := Option.some.inj ha; show w.heap.size ≤ h; (try simp only [World.size_drew] at hh3); omega⟩
      (repeat' (first | exact HR4.out | refine Rd.far ?_ (fun a ha => by obtain rfl := Option.some.inj ha; show h ≠ w.heap.size + 1; (try simp only [World.size_drew] at hh3); omega) _))
    · (repeat' (first | (with_reducible exact Below.refl _ _) | (with_reducible assumption) | (with_reducible refine Below.alloc ?_ ?_ _) | (with_reducible refine Below.drew ?_) | (with_reducible refine below_drewN ?_ _) | (with_reducible refine Below.setCell ?_ ?_ _) | (with_reducible refine chain ?_ (by assumption) ?_) | omega | (simp; done) | (simp; omega)))

end Go.Proofs.Ytncgccpkbneagaa
namespace Go.Proofs.Ytncgccpkbneagaa
open Go.RowKit RM
set_option linter.unusedVariables false
set_option linter.unusedSimpArgs false
attribute [local irreducible] World.setCell

open GM
theorem apl_len {n D C : Nat} : ∀ (gs : List C4.GateV) (xs ys : List D5), apl n D C gs xs = some ys → xs.length = D * C → ys.length = D * C := by
  intro gs
  induction gs with
  | nil => intro xs ys h hx; obtain rfl := Option.some.inj h; exact hx
  | cons g gs ih =>
    intro xs ys h hx
    have h2 : (if stB n D C g xs then none else apl n D C gs (stF n D C g xs)) = some ys := h
    split at h2
    · cases h2
    · exact ih _ _ h2 stF_len

end Go.Proofs.Ytncgccpkbneagaa
namespace Go.Proofs.Ytncgccpkbneagaa
open Go.RowKit RM
set_option linter.unusedSimpArgs false
theorem fieldsOf_of {P : Program} {t : TypeId} {fs : Array Field} (h : P.underlying t = some (.struct fs)) : P.fieldsOf t = fs := by unfold Program.fieldsOf; rw [h]
theorem fR : ∃ f0 f1 f2 f3 : Field, (Try.prog.fieldsOf 35).toList = [f0, f1, f2, f3] ∧ (f0.type = 3 ∧ f1.type = 3 ∧ f2.type = 3 ∧ f3.type = 3) ∧ (f0.offset = 0 ∧ f1.offset = 1 ∧ f2.offset = 2 ∧ f3.offset = 3) ∧ (f0.name ≠ "_" ∧ f1.name ≠ "_" ∧ f2.name ≠ "_" ∧ f3.name ≠ "_") :=
  ⟨_, _, _, _, congrArg Array.toList (fieldsOf_of Try.underlying35), ⟨rfl, rfl, rfl, rfl⟩, ⟨rfl, rfl, rfl, rfl⟩, ⟨by decide, by decide, by decide, by decide⟩⟩
theorem fD : ∃ f0 f1 : Field, (Try.prog.fieldsOf 37).toList = [f0, f1] ∧ (f0.type = 35 ∧ f1.type = 3) ∧ (f0.offset = 0 ∧ f1.offset = 4) ∧ (f0.name ≠ "_" ∧ f1.name ≠ "_") :=
  ⟨_, _, congrArg Array.toList (fieldsOf_of Try.underlying37), ⟨rfl, rfl⟩, ⟨rfl, rfl⟩, ⟨by decide, by decide⟩⟩
theorem pR (a b c d : Int) (w : World) : (part 3 #[.int .i64 a, .int .i64 b, .int .i64 c, .int .i64 d] 0).run Try.prog w = .ok (.int .i64 a) w ∧ (part 3 #[.int .i64 a, .int .i64 b, .int .i64 c, .int .i64 d] 1).run Try.prog w = .ok (.int .i64 b) w
    ∧ (part 3 #[.int .i64 a, .int .i64 b, .int .i64 c, .int .i64 d] 2).run Try.prog w = .ok (.int .i64 c) w ∧ (part 3 #[.int .i64 a, .int .i64 b, .int .i64 c, .int .i64 d] 3).run Try.prog w = .ok (.int .i64 d) w :=
  ⟨by kernel_rfl, by kernel_rfl, by kernel_rfl, by kernel_rfl⟩
theorem pD (a b c d e : Int) (w : World) : (part 35 #[.int .i64 a, .int .i64 b, .int .i64 c, .int .i64 d, .int .i64 e] 0).run Try.prog w = .ok (rg a b c d) w ∧ (part 3 #[.int .i64 a, .int .i64 b, .int .i64 c, .int .i64 d, .int .i64 e] 4).run Try.prog w = .ok (.int .i64 e) w :=
  ⟨by kernel_rfl, by kernel_rfl⟩
theorem uR : Try.prog.underlying 35 = some (.struct (Try.prog.fieldsOf 35)) := by kernel_rfl
theorem uD : Try.prog.underlying 37 = some (.struct (Try.prog.fieldsOf 37)) := by kernel_rfl
theorem sR : Try.prog.stoodInHeld 35 = false := by kernel_rfl
theorem sD : Try.prog.stoodInHeld 37 = false := by kernel_rfl
theorem eqR (k : Nat) (a b c d p q r s : Int) (w : World) : (Op.equalIn (k + 2) 35 (rg a b c d) (rg p q r s)).run Try.prog w = .ok (a == p && (b == q && (c == r && d == s))) w := by
  obtain ⟨f0, f1, f2, f3, hf, ⟨t0, t1, t2, t3⟩, ⟨o0, o1, o2, o3⟩, ⟨n0, n1, n2, n3⟩⟩ := fR
  rw [run_equalIn_struct w (k + 1) _ _ _ uR sR, hf]
  obtain ⟨x0, x1, x2, x3⟩ := pR a b c d w
  obtain ⟨y0, y1, y2, y3⟩ := pR p q r s w
  have e0 := fun w => run_equalIn_int w k 3 .i64 .i64 a p Try.underlying3
  have e1 := fun w => run_equalIn_int w k 3 .i64 .i64 b q Try.underlying3
  have e2 := fun w => run_equalIn_int w k 3 .i64 .i64 c r Try.underlying3
  have e3 := fun w => run_equalIn_int w k 3 .i64 .i64 d s Try.underlying3
  cases h0 : (a == p) <;> cases h1 : (b == q) <;> cases h2 : (c == r) <;> cases h3 : (d == s) <;> (rw [h0] at e0; rw [h1] at e1; rw [h2] at e2; rw [h3] at e3; simp [Op.eqFields, t0, t1, t2, t3, o0, o1, o2, o3, n0, n1, n2, n3, x0, x1, x2, x3, y0, y1, y2, y3, e0, e1, e2, e3])
theorem eqD (k : Nat) (a b c d e p q r s f : Int) (w : World) : (Op.equalIn (k + 3) 37 (dy a b c d e) (dy p q r s f)).run Try.prog w = .ok ((a == p && (b == q && (c == r && d == s))) && e == f) w := by
  obtain ⟨f0, f1, hf, ⟨t0, t1⟩, ⟨o0, o1⟩, ⟨n0, n1⟩⟩ := fD
  rw [run_equalIn_struct w (k + 2) _ _ _ uD sD, hf]
  obtain ⟨x0, x1⟩ := pD a b c d e w
  obtain ⟨y0, y1⟩ := pD p q r s f w
  have e0 := fun w => eqR k a b c d p q r s w
  have e1 := fun w => run_equalIn_int w (k + 1) 3 .i64 .i64 e f Try.underlying3
  cases h0 : (a == p && (b == q && (c == r && d == s))) <;> cases h1 : (e == f) <;> (rw [h0] at e0; rw [h1] at e1; simp [Op.eqFields, t0, t1, o0, o1, n0, n1, x0, x1, y0, y1, e0, e1])
theorem run_neqD (a b c d e p q r s f : Int) (v : Bool) (w : World) (h : ((a == p && (b == q && (c == r && d == s))) && e == f) = v) : (binOp .neq 37 (dy a b c d e) (dy p q r s f)).run Try.prog w = .ok (.bool (!v)) w := by
  subst h
  simp only [binOp]
  simp [Op.equal, Op.maxDepth, eqD 9997 a b c d e p q r s f w]
theorem run_eqlD (a b c d e p q r s f : Int) (v : Bool) (w : World) (h : ((a == p && (b == q && (c == r && d == s))) && e == f) = v) : (binOp .eql 37 (dy a b c d e) (dy p q r s f)).run Try.prog w = .ok (.bool v) w := by
  subst h
  simp only [binOp]
  simp [Op.equal, Op.maxDepth, eqD 9997 a b c d e p q r s f w]
theorem eqv5 {x y : D5} : ((x.a == y.a && (x.b == y.b && (x.c == y.c && x.d == y.d))) && x.e == y.e) = decide (x.a = y.a ∧ x.b = y.b ∧ x.c = y.c ∧ x.d = y.d ∧ x.e = y.e) := by
  rw [Bool.eq_iff_iff]; simp [and_assoc]
theorem ne_all5 {x y : D5} (h : x ≠ y) : ¬ (x.a = y.a ∧ x.b = y.b ∧ x.c = y.c ∧ x.d = y.d ∧ x.e = y.e) := by
  obtain ⟨a, b, c, d, e⟩ := x
  obtain ⟨p, q, r, s, f⟩ := y
  rintro ⟨rfl, rfl, rfl, rfl, rfl⟩
  exact h rfl
/-- two numbers that differ; a number and itself -/
theorem neq_t {x y : D5} (h : x ≠ y) (w : World) : (binOp .neq 37 x.v y.v).run Try.prog w = .ok (.bool true) w :=
  run_neqD _ _ _ _ _ _ _ _ _ _ false w (by rw [eqv5, decide_eq_false (ne_all5 h)])
theorem neq_f (x : D5) (w : World) : (binOp .neq 37 x.v x.v).run Try.prog w = .ok (.bool false) w :=
  run_neqD _ _ _ _ _ _ _ _ _ _ true w (by rw [eqv5]; simp)
theorem eql_f {x y : D5} (h : x ≠ y) (w : World) : (binOp .eql 37 x.v y.v).run Try.prog w = .ok (.bool false) w :=
  run_eqlD _ _ _ _ _ _ _ _ _ _ false w (by rw [eqv5, decide_eq_false (ne_all5 h)])
end Go.Proofs.Ytncgccpkbneagaa
namespace Go.Proofs.Ytncgccpkbneagaa
open Go.RowKit RM
set_option linter.unusedVariables false
set_option linter.unusedSimpArgs false
attribute [local irreducible] World.setCell

/-- equality of numbers, of lists of them -/
def D5.beq (x y : D5) : Bool := x.a == y.a && x.b == y.b && x.c == y.c && x.d == y.d && x.e == y.e
theorem beq_iff5 {x y : D5} : x.beq y = true ↔ x = y := by
  obtain ⟨a, b, c, d, e⟩ := x
  obtain ⟨p, q, r, s, f⟩ := y
  simp [D5.beq, and_assoc]
end Go.Proofs.Ytncgccpkbneagaa
namespace Go.Proofs.Ytncgccpkbneagaa
open Go.RowKit RM
set_option linter.unusedVariables false
set_option linter.unusedSimpArgs false
attribute [local irreducible] World.setCell

/-- the numbers of which one is not the other turned -/
def neB (k : Nat) (xs ys : List D5) (i : Nat) : Bool := !((xs.getD i z5).beq (turn k (ys.getD i z5)))
/-- what a test answers: no where bad -/
def EF (w w' : World) (ee : Ending) (bad : Bool) : Prop := (bad = true → ee = .returned (.bool false)) ∧ (bad = false → ee = .returned (.bool true)) ∧ Below w.heap.size w w'
theorem neB_f {k i : Nat} {xs ys : List D5} {x y : D5} (hx : xs[i]? = some x) (hy : ys[i]? = some y) (h : x = turn k y) : neB k xs ys i = false := by
  unfold neB; rw [getD_of hx, getD_of hy, ← h, beq_iff5.2 rfl]; rfl
theorem neB_t {k i : Nat} {xs ys : List D5} {x y : D5} (hx : xs[i]? = some x) (hy : ys[i]? = some y) (h : x ≠ turn k y) : neB k xs ys i = true := by
  unfold neB; rw [getD_of hx, getD_of hy]
  cases hq : x.beq (turn k y)
  · rfl
  · exact absurd (beq_iff5.1 hq) h
theorem undrewE {W W' : World} (h : Below W.drew.heap.size W.drew W') : Below W.heap.size W W' := ⟨h.os, h.tape, h.output, h.size, h.block⟩

theorem eqlq_t {x y : D5} (h : x = y) (w : World) : (binOp .eql 37 x.v y.v).run Try.prog w = .ok (.bool true) w := by
  subst h
  exact run_eqlD _ _ _ _ _ _ _ _ _ _ true w (by rw [eqv5]; simp)
set_option maxRecDepth 100000 in
set_option maxHeartbeats 4000000 in
theorem cl_t {x y : D5} {k gp : Nat} {w : World} (hk : k < 8) (hy : y.ok = true) (hp : Bx w gp 37 #[.int .i64 (omP k).a, .int .i64 (omP k).b, .int .i64 (omP k).c, .int .i64 (omP k).d, .int .i64 (omP k).e]) (h : x = turn k y) :
    Calls Try.prog 155 #[x.v, y.v, .pointer (some ⟨gp, 0, none⟩)] w fun ee w' => ee = .returned (.bool true) ∧ Below w.heap.size w w' := by
  have hop := fun w => eqlq_t h w
  have HY := hid hy
  have HK := hid hk
  have HM := hid (mulS_om hk hy)
  have c0 := hp.c 0 rfl
  have c1 := hp.c 1 rfl
  have c2 := hp.c 2 rfl
  have c3 := hp.c 3 rfl
  have c4 := hp.c 4 rfl
  have lp := hp.lt
  clear hy hk h hp
  go_enter Try.func155, Try.ntmps155
  go_wp2_with (fail)
  refine (imul_t (x := y) (y := omP k) HY.out (omP_ok HK.out) (by rw [HM.out]) _).mono ?_
  rintro ee w1 ⟨rfl, hb1⟩
  obtain ⟨hc1, hf1, _⟩ := bcell hb1; have hz1 := hb1.size; (try simp at hz1); (try have hx10 : w.heap.size < w1.heap.size := (by omega)); (try have hx11 : w.heap.size + 1 < w1.heap.size := (by omega)); (try have hx12 : w.heap.size + 1 + 1 < w1.heap.size := (by omega)); (try have hx13 : w.heap.size + 1 + 1 + 1 < w1.heap.size := (by omega))
  have e0 : (mulS false y (omP k)).1.a = (turn k y).a := by rw [HM.out]
  have e1 : (mulS false y (omP k)).1.b = (turn k y).b := by rw [HM.out]
  have e2 : (mulS false y (omP k)).1.c = (turn k y).c := by rw [HM.out]
  have e3 : (mulS false y (omP k)).1.d = (turn k y).d := by rw [HM.out]
  have e4 : (mulS false y (omP k)).1.e = (turn k y).e := by rw [HM.out]
  go_wp2_with (fail)
  go_ret
  refine ⟨rfl, ?_⟩
  (repeat' (first | (with_reducible exact Below.refl _ _) | (with_reducible assumption) | (with_reducible refine Below.alloc ?_ ?_ _) | (with_reducible refine Below.drew ?_) | (with_reducible refine below_drewN ?_ _) | (with_reducible refine Below.setCell ?_ ?_ _) | (with_reducible refine chain ?_ (by assumption) ?_) | omega | (simp; done) | (simp; omega)))

set_option maxRecDepth 100000 in
set_option maxHeartbeats 4000000 in
theorem cl_f {x y : D5} {k gp : Nat} {w : World} (hk : k < 8) (hy : y.ok = true) (hp : Bx w gp 37 #[.int .i64 (omP k).a, .int .i64 (omP k).b, .int .i64 (omP k).c, .int .i64 (omP k).d, .int .i64 (omP k).e]) (h : x ≠ turn k y) :
    Calls Try.prog 155 #[x.v, y.v, .pointer (some ⟨gp, 0, none⟩)] w fun ee w' => ee = .returned (.bool false) ∧ Below w.heap.size w w' := by
  have hop := fun w => eql_f h w
  have HY := hid hy
  have HK := hid hk
  have HM := hid (mulS_om hk hy)
  have c0 := hp.c 0 rfl
  have c1 := hp.c 1 rfl
  have c2 := hp.c 2 rfl
  have c3 := hp.c 3 rfl
  have c4 := hp.c 4 rfl
  have lp := hp.lt
  clear hy hk h hp
  go_enter Try.func155, Try.ntmps155
  go_wp2_with (fail)
  refine (imul_t (x := y) (y := omP k) HY.out (omP_ok HK.out) (by rw [HM.out]) _).mono ?_
  rintro ee w1 ⟨rfl, hb1⟩
  obtain ⟨hc1, hf1, _⟩ := bcell hb1; have hz1 := hb1.size; (try simp at hz1); (try have hx10 : w.heap.size < w1.heap.size := (by omega)); (try have hx11 : w.heap.size + 1 < w1.heap.size := (by omega)); (try have hx12 : w.heap.size + 1 + 1 < w1.heap.size := (by omega)); (try have hx13 : w.heap.size + 1 + 1 + 1 < w1.heap.size := (by omega))
  have e0 : (mulS false y (omP k)).1.a = (turn k y).a := by rw [HM.out]
  have e1 : (mulS false y (omP k)).1.b = (turn k y).b := by rw [HM.out]
  have e2 : (mulS false y (omP k)).1.c = (turn k y).c := by rw [HM.out]
  have e3 : (mulS false y (omP k)).1.d = (turn k y).d := by rw [HM.out]
  have e4 : (mulS false y (omP k)).1.e = (turn k y).e := by rw [HM.out]
  go_wp2_with (fail)
  go_ret
  refine ⟨rfl, ?_⟩
  (repeat' (first | (with_reducible exact Below.refl _ _) | (with_reducible assumption) | (with_reducible refine Below.alloc ?_ ?_ _) | (with_reducible refine Below.drew ?_) | (with_reducible refine below_drewN ?_ _) | (with_reducible refine Below.setCell ?_ ?_ _) | (with_reducible refine chain ?_ (by assumption) ?_) | omega | (simp; done) | (simp; omega)))

set_option maxRecDepth 100000 in
set_option maxHeartbeats 4000000 in
theorem eqf {A B : Option Addr} {n c d k gp : Nat} {xs ys : List D5} {w : World} (hA : Rd w A xs) (hB : Rd w B ys) (hn : xs.length = n) (hm : ys.length = n) (hb : n ≤ 1048576) (hk : k < 8) (hy : allB ys = true) (hp : Bx w gp 37 #[.int .i64 (omP k).a, .int .i64 (omP k).b, .int .i64 (omP k).c, .int .i64 (omP k).d, .int .i64 (omP k).e]) :
    Calls Try.prog 156 #[.slice A n c, .slice B n d, (.func (.func 155) #[] #[.pointer (some ⟨gp, 0, none⟩)])] w fun ee w' => EF w w' ee (anyB n (neB k xs ys)) := by
  have HA := hid hA
  have HB := hid hB
  have HN := hid hn
  have HM := hid hm
  have HP := hid hp
  have HY := hid hy
  have HK := hid hk
  clear hA hB hn hm hp hy hk
  go_enter Try.func156, Try.ntmps156
  go_wp2_with (fail)
  go_loopg [17] n (fun q s1 wr => ∃ j : Nat, j + q = n ∧ s1 = .int .i64 (j : Int) ∧ Hid (∀ i, i < j → neB k xs ys i = false) ∧ Below w.heap.size w wr)
  case atStart => exact ⟨0, by omega, rfl, fun i hi => absurd hi (Nat.not_lt_zero i), Below.refl _ _⟩
  case round =>
    obtain ⟨j, hj, rfl, HJ, hB⟩ := hrel
    cases gk with
    | zero =>
      obtain rfl : j = n := by omega
      go_wp2_with (fail)
      go_ret
      refine ⟨fun h => ?_, fun _ => rfl, hB⟩
      rw [anyB_f HJ.out] at h; cases h
    | succ m =>
      have hlt : j < n := by omega
      have j1 : (j : Int) < (n : Int) := by omega
      have hBq := hB.size
      obtain ⟨x, hx⟩ : ∃ x, xs[j]? = some x := ⟨_, List.getElem?_eq_getElem (by rw [HN.out]; exact hlt)⟩
      obtain ⟨y, hy⟩ : ∃ y, ys[j]? = some y := ⟨_, List.getElem?_eq_getElem (by rw [HM.out]; exact hlt)⟩
      obtain ⟨g, o, rfl, hC⟩ := HA.out j x hx
      obtain ⟨g', o', rfl, hC'⟩ := HB.out j y hy
      have HKy := hid (all_get HY.out hy)
      have HX := hid hx
      have HYj := hid hy
      clear hx hy
      obtain ⟨q0, q1, q2, q3, q4⟩ := hC.at_ (hB.block g hC.lt)
      obtain ⟨p0, p1, p2, p3, p4⟩ := hC'.at_ (hB.block g' hC'.lt)
      have lq := World.block_lt_of_cell? _ _ q0
      have lp := World.block_lt_of_cell? _ _ p0
      (try dsimp only at lq lp)
      clear hC hC'
      go_wp2_with (fail)
      by_cases hxy : x = turn k y
      · have HXY := hid hxy
        clear hxy
        refine (cl_t (x := x) (y := y) HK.out HKy.out ?_ HXY.out).mono ?_
        · exact HP.out.mono (by (repeat' (first | (with_reducible exact Below.refl _ _) | (with_reducible assumption) | (with_reducible refine Below.alloc ?_ ?_ _) | (with_reducible refine Below.drew ?_) | (with_reducible refine below_drewN ?_ _) | (with_reducible refine Below.setCell ?_ ?_ _) | (with_reducible refine chain ?_ (by assumption) ?_) | omega | (simp; done) | (simp; omega))))
        rintro ee w1 ⟨rfl, hb1⟩
        have hz1 := hb1.size
        (try simp only [World.size_alloc] at hz1)
        have hB1 : Below w.heap.size w w1 := by (repeat' (first | (with_reducible exact Below.refl _ _) | (with_reducible assumption) | (with_reducible refine Below.alloc ?_ ?_ _) | (with_reducible refine Below.drew ?_) | (with_reducible refine below_drewN ?_ _) | (with_reducible refine Below.setCell ?_ ?_ _) | (with_reducible refine chain ?_ (by assumption) ?_) | omega | (simp; done) | (simp; omega)))
        go_wp2_with (fail)
        go_roundg m
        case measure => omega
        case rel =>
          refine ⟨j + 1, by omega, by go_num, ?_, hB1⟩
          show ∀ i, i < j + 1 → _
          intro i hi
          by_cases e : i = j
          · subst e; exact neB_f HX.out HYj.out HXY.out
          · exact HJ.out i (by omega)
      · have HXY := hid hxy
        clear hxy
        refine (cl_f (x := x) (y := y) HK.out HKy.out ?_ HXY.out).mono ?_
        · exact HP.out.mono (by (repeat' (first | (with_reducible exact Below.refl _ _) | (with_reducible assumption) | (with_reducible refine Below.alloc ?_ ?_ _) | (with_reducible refine Below.drew ?_) | (with_reducible refine below_drewN ?_ _) | (with_reducible refine Below.setCell ?_ ?_ _) | (with_reducible refine chain ?_ (by assumption) ?_) | omega | (simp; done) | (simp; omega))))
        rintro ee w1 ⟨rfl, hb1⟩
        have hz1 := hb1.size
        (try simp only [World.size_alloc] at hz1)
        have hB1 : Below w.heap.size w w1 := by (repeat' (first | (with_reducible exact Below.refl _ _) | (with_reducible assumption) | (with_reducible refine Below.alloc ?_ ?_ _) | (with_reducible refine Below.drew ?_) | (with_reducible refine below_drewN ?_ _) | (with_reducible refine Below.setCell ?_ ?_ _) | (with_reducible refine chain ?_ (by assumption) ?_) | omega | (simp; done) | (simp; omega)))
        go_wp2_with (fail)
        go_ret
        refine ⟨fun _ => rfl, fun h => ?_, hB1⟩
        rw [anyB_of hlt (neB_t HX.out HYj.out HXY.out)] at h; cases h

set_option maxRecDepth 100000 in
set_option maxHeartbeats 4000000 in
theorem im_r {r c r' c' : Int} {A B : Option Addr} {n m cp cp' k : Nat} {w : World} (h : r ≠ r') :
    Calls Try.prog 110 #[mv r c A n cp, mv r' c' B m cp', (omP k).v] w fun ee w' => ee = .returned (.bool false) ∧ Below w.heap.size w w' := by
  have h1 : (r == r') = false := by simpa using h
  have h2 : (r != r') = true := by simpa using h
  clear h
  go_enter Try.func110, Try.ntmps110
  go_wp2_with (fail)
  go_ret
  refine ⟨rfl, ?_⟩
  (repeat' (first | (with_reducible exact Below.refl _ _) | (with_reducible assumption) | (with_reducible refine Below.alloc ?_ ?_ _) | (with_reducible refine Below.drew ?_) | (with_reducible refine below_drewN ?_ _) | (with_reducible refine Below.setCell ?_ ?_ _) | (with_reducible refine chain ?_ (by assumption) ?_) | omega | (simp; done) | (simp; omega)))

set_option maxRecDepth 100000 in
set_option maxHeartbeats 4000000 in
theorem im_c {r c r' c' : Int} {A B : Option Addr} {n m cp cp' k : Nat} {w : World} (h0 : r = r') (h : c ≠ c') :
    Calls Try.prog 110 #[mv r c A n cp, mv r' c' B m cp', (omP k).v] w fun ee w' => ee = .returned (.bool false) ∧ Below w.heap.size w w' := by
  subst h0
  have h1 : (c == c') = false := by simpa using h
  have h2 : (c != c') = true := by simpa using h
  clear h
  go_enter Try.func110, Try.ntmps110
  go_wp2_with (fail)
  go_ret
  refine ⟨rfl, ?_⟩
  (repeat' (first | (with_reducible exact Below.refl _ _) | (with_reducible assumption) | (with_reducible refine Below.alloc ?_ ?_ _) | (with_reducible refine Below.drew ?_) | (with_reducible refine below_drewN ?_ _) | (with_reducible refine Below.setCell ?_ ?_ _) | (with_reducible refine chain ?_ (by assumption) ?_) | omega | (simp; done) | (simp; omega)))

set_option maxRecDepth 100000 in
set_option maxHeartbeats 4000000 in
theorem im_l {r c : Int} {A B : Option Addr} {n cp cp' k : Nat} {xs ys : List D5} {w : World} (hA : Rd w A xs) (hB : Rd w B ys) (hn : xs.length = n) (hm : ys.length = n) (hb : n ≤ 1048576) (hk : k < 8) (hy : allB ys = true) :
    Calls Try.prog 110 #[mv r c A n cp, mv r c B n cp', (omP k).v] w fun ee w' => EF w w' ee (anyB n (neB k xs ys)) := by
  have HA := hid hA
  have HB := hid hB
  have HN := hid hn
  have HM := hid hm
  have HY := hid hy
  have HK := hid hk
  clear hA hB hn hm hy hk
  go_enter Try.func110, Try.ntmps110
  go_wp2_with (fail)
  refine (eqf (gp := w.heap.size + 1 + 1) (k := k) (xs := xs) (ys := ys) ?_ ?_ HN.out HM.out hb HK.out HY.out ?_).mono ?_
  · exact HA.out.mono (by (repeat' (first | (with_reducible exact Below.refl _ _) | (with_reducible assumption) | (with_reducible refine Below.alloc ?_ ?_ _) | (with_reducible refine Below.drew ?_) | (with_reducible refine below_drewN ?_ _) | (with_reducible refine Below.setCell ?_ ?_ _) | (with_reducible refine chain ?_ (by assumption) ?_) | omega | (simp; done) | (simp; omega))))
  · exact HB.out.mono (by (repeat' (first | (with_reducible exact Below.refl _ _) | (with_reducible assumption) | (with_reducible refine Below.alloc ?_ ?_ _) | (with_reducible refine Below.drew ?_) | (with_reducible refine below_drewN ?_ _) | (with_reducible refine Below.setCell ?_ ?_ _) | (with_reducible refine chain ?_ (by assumption) ?_) | omega | (simp; done) | (simp; omega))))
  · exact Bx.new (by simp)
  rintro ee w1 ⟨h1, h2, hb1⟩
  have hB1 : Below w.heap.size w w1 := by (repeat' (first | (with_reducible exact Below.refl _ _) | (with_reducible assumption) | (with_reducible refine Below.alloc ?_ ?_ _) | (with_reducible refine Below.drew ?_) | (with_reducible refine below_drewN ?_ _) | (with_reducible refine Below.setCell ?_ ?_ _) | (with_reducible refine chain ?_ (by assumption) ?_) | omega | (simp; done) | (simp; omega)))
  cases hq : anyB n (neB k xs ys)
  · obtain rfl := h2 hq
    have HQ := hid hq
    clear hq h1 h2
    go_wp2_with (fail)
    go_ret
    refine ⟨fun h => ?_, fun _ => rfl, hB1⟩
    rw [HQ.out] at h; cases h
  · obtain rfl := h1 hq
    have HQ := hid hq
    clear hq h1 h2
    go_wp2_with (fail)
    go_ret
    refine ⟨fun _ => rfl, fun h => ?_, hB1⟩
    rw [HQ.out] at h; cases h

/-- not a multiple by this power -/
def badK (r c r' c' : Int) (n : Nat) (xs ys : List D5) (k : Nat) : Bool := r != r' || (c != c' || anyB n (neB k xs ys))
theorem im {r c r' c' : Int} {A B : Option Addr} {n m cp cp' k : Nat} {xs ys : List D5} {w : World} (hA : Rd w A xs) (hB : Rd w B ys) (hn : xs.length = n) (hm : ys.length = m) (hb : n ≤ 1048576) (hd : r = r' → c = c' → n = m) (hk : k < 8) (hy : allB ys = true) :
    Calls Try.prog 110 #[mv r c A n cp, mv r' c' B m cp', (omP k).v] w fun ee w' => EF w w' ee (badK r c r' c' n xs ys k) := by
  by_cases hr : r = r'
  · by_cases hc : c = c'
    · subst hr hc
      obtain rfl := hd rfl rfl
      refine (im_l hA hB hn hm hb hk hy).mono fun ee w' h => ?_
      unfold badK
      rw [show (r != r) = false by simp, show (c != c) = false by simp, Bool.false_or, Bool.false_or]
      exact h
    · refine (im_c hr hc).mono fun ee w' h => ⟨fun _ => h.1, fun h2 => ?_, h.2⟩
      unfold badK at h2
      rw [show (c != c') = true by simpa using hc] at h2
      simp at h2
  · refine (im_r hr).mono fun ee w' h => ⟨fun _ => h.1, fun h2 => ?_, h.2⟩
    unfold badK at h2
    rw [show (r != r') = true by simpa using hr] at h2
    simp at h2

end Go.Proofs.Ytncgccpkbneagaa
namespace Go.Proofs.Ytncgccpkbneagaa
open Go.RowKit RM
set_option linter.unusedVariables false
set_option linter.unusedSimpArgs false
attribute [local irreducible] World.setCell

theorem im_y {r c r' c' : Int} {A B : Option Addr} {n m cp cp' k : Nat} {xs ys : List D5} {w : World} (hA : Rd w A xs) (hB : Rd w B ys) (hn : xs.length = n) (hm : ys.length = m) (hb : n ≤ 1048576) (hd : r = r' → c = c' → n = m) (hk : k < 8) (hy : allB ys = true) (h : badK r c r' c' n xs ys k = false) :
    Calls Try.prog 110 #[mv r c A n cp, mv r' c' B m cp', (omP k).v] w fun ee w' => ee = .returned (.bool true) ∧ Below w.heap.size w w' :=
  (im hA hB hn hm hb hd hk hy).mono fun ee w' q => ⟨q.2.1 h, q.2.2⟩
theorem im_n {r c r' c' : Int} {A B : Option Addr} {n m cp cp' k : Nat} {xs ys : List D5} {w : World} (hA : Rd w A xs) (hB : Rd w B ys) (hn : xs.length = n) (hm : ys.length = m) (hb : n ≤ 1048576) (hd : r = r' → c = c' → n = m) (hk : k < 8) (hy : allB ys = true) (h : badK r c r' c' n xs ys k = true) :
    Calls Try.prog 110 #[mv r c A n cp, mv r' c' B m cp', (omP k).v] w fun ee w' => ee = .returned (.bool false) ∧ Below w.heap.size w w' :=
  (im hA hB hn hm hb hd hk hy).mono fun ee w' q => ⟨q.1 h, q.2.2⟩
/-- what a search for the least power answers -/
def PH (mk : Int → Bool → Value) (bad : Nat → Bool) (w w' : World) (ee : Ending) : Prop :=
  (∀ K : Nat, K < 8 → (∀ i, i < K → bad i = true) → bad K = false → ee = .returned (mk K true)) ∧ ((∀ i, i < 8 → bad i = true) → ee = .returned (mk 0 false)) ∧ Below w.heap.size w w'
theorem PH.found {mk : Int → Bool → Value} {bad : Nat → Bool} {w w' : World} {ee : Ending} {k : Nat} (hk : k < 8) (h1 : ∀ i, i < k → bad i = true) (h2 : bad k = false) (he : ee = .returned (mk k true)) (hb : Below w.heap.size w w') : PH mk bad w w' ee := by
  refine ⟨fun K hK k1 k2 => ?_, fun h => ?_, hb⟩
  · have : K = k := by
      rcases Nat.lt_trichotomy K k with h | h | h
      · rw [h1 K h] at k2; cases k2
      · exact h
      · rw [k1 k h] at h2; cases h2
    subst this; exact he
  · rw [h k hk] at h2; cases h2
theorem PH.none {mk : Int → Bool → Value} {bad : Nat → Bool} {w w' : World} {ee : Ending} (h1 : ∀ i, i < 8 → bad i = true) (he : ee = .returned (mk 0 false)) (hb : Below w.heap.size w w') : PH mk bad w w' ee :=
  ⟨fun K hK _ k2 => (by rw [h1 K hK] at k2; cases k2), fun _ => he, hb⟩
theorem ph_any (bad : Nat → Bool) : (∃ K, K < 8 ∧ (∀ i, i < K → bad i = true) ∧ bad K = false) ∨ (∀ i, i < 8 → bad i = true) := by
  have key : ∀ n : Nat, (∃ K, K < n ∧ (∀ i, i < K → bad i = true) ∧ bad K = false) ∨ (∀ i, i < n → bad i = true) := by
    intro n
    induction n with
    | zero => exact Or.inr (fun i hi => absurd hi (Nat.not_lt_zero i))
    | succ n ih =>
      rcases ih with ⟨K, h1, h2, h3⟩ | h
      · exact Or.inl ⟨K, by omega, h2, h3⟩
      · cases hq : bad n
        · exact Or.inl ⟨n, by omega, h, hq⟩
        · refine Or.inr (fun i hi => ?_)
          by_cases e : i = n
          · subst e; exact hq
          · exact h i (by omega)
  exact key 8
def mk3 (k : Int) (b : Bool) : Value := .tuple #[.int .i64 k, .bool b, .bool true]
def mk2 (k : Int) (b : Bool) : Value := .tuple #[.int .i64 k, .bool b]

set_option maxRecDepth 100000 in
set_option maxHeartbeats 8000000 in
theorem up_i_t {r c r' c' : Int} {A B : Option Addr} {n m cp cp' : Nat} {xs ys : List D5} {w : World} (hA : Rd w A xs) (hB : Rd w B ys) (hn : xs.length = n) (hm : ys.length = m) (hok : okM r c n xs = true) (hok2 : okM r' c' m ys = true) :
    Calls Try.prog 53 #[mv r c A n cp, mv r' c' B m cp'] w fun ee w' => PH mk3 (badK r c r' c' n xs ys) w w' ee := by
  have hd0 : r = r' → c = c' → n = m := by
    intro h1 h2
    have k1 := (okM_iff.1 hok).2.2.1
    have k2 := (okM_iff.1 hok2).2.2.1
    subst h1 h2
    have : (n : Int) = (m : Int) := by rw [k1, k2]
    omega
  have hn5 : n ≤ 1048576 := by obtain ⟨_, _, _, _, _, _, _, _, _, h⟩ := okM_nat hok; omega
  have hm5 : m ≤ 1048576 := by obtain ⟨_, _, _, _, _, _, _, _, _, h⟩ := okM_nat hok2; omega
  have HD := hid hd0
  have HY := hid (okM_iff.1 hok2).2.2.2
  have HA := hid hA
  have HB := hid hB
  have HN := hid hn
  have HM := hid hm
  have HO := hid hok
  have HP := hid hok2
  clear hA hB hn hm hok hok2 hd0
  go_enter Try.func53, Try.ntmps53
  go_wp2_with (fail)
  refine (vm_i_t (xs := xs) HO.out ?_ HN.out).mono ?_
  · exact HA.out.mono (by (repeat' (first | (with_reducible exact Below.refl _ _) | (with_reducible assumption) | (with_reducible refine Below.alloc ?_ ?_ _) | (with_reducible refine Below.drew ?_) | (with_reducible refine below_drewN ?_ _) | (with_reducible refine Below.setCell ?_ ?_ _) | (with_reducible refine chain ?_ (by assumption) ?_) | omega | (simp; done) | (simp; omega))))
  rintro ee w1 ⟨rfl, hb1⟩
  obtain ⟨hc1, hf1, _⟩ := bcell hb1; have hz1 := hb1.size; (try simp at hz1); (try have hx10 : w.heap.size < w1.heap.size := (by omega)); (try have hx11 : w.heap.size + 1 < w1.heap.size := (by omega)); (try have hx12 : w.heap.size + 1 + 1 < w1.heap.size := (by omega)); (try have hx13 : w.heap.size + 1 + 1 + 1 < w1.heap.size := (by omega))
  have Xa1 : Hid (Bx w1 (w.heap.size) 26 #[.int .i64 r, .int .i64 c, .slice A n cp]) := by show Bx _ _ _ _; (repeat' (first | (with_reducible assumption) | (refine Bx.new (by first | (with_reducible rfl) | (simp; done))) | (with_reducible refine Bx.alloc ?_ _) | (with_reducible refine Bx.drew ?_) | (with_reducible refine Bx.drewN ?_ _) | (with_reducible refine Bx.mono ?_ (by assumption)) | (with_reducible refine Bx.badly ?_ (by assumption) (by omega)) | (with_reducible refine Bx.far ?_ (by (try simp only [World.size_alloc, World.size_drew]); omega)) | (with_reducible refine Bx.set ?_ rfl) | (with_reducible refine Bx.grown ?_ (by assumption) (by assumption))))
  have Xb1 : Hid (Bx w1 (w.heap.size + 1) 26 #[.int .i64 r', .int .i64 c', .slice B m cp']) := by show Bx _ _ _ _; (repeat' (first | (with_reducible assumption) | (refine Bx.new (by first | (with_reducible rfl) | (simp; done))) | (with_reducible refine Bx.alloc ?_ _) | (with_reducible refine Bx.drew ?_) | (with_reducible refine Bx.drewN ?_ _) | (with_reducible refine Bx.mono ?_ (by assumption)) | (with_reducible refine Bx.badly ?_ (by assumption) (by omega)) | (with_reducible refine Bx.far ?_ (by (try simp only [World.size_alloc, World.size_drew]); omega)) | (with_reducible refine Bx.set ?_ rfl) | (with_reducible refine Bx.grown ?_ (by assumption) (by assumption))))
  have hw1 : Below w.heap.size w w1 := by (repeat' (first | (with_reducible exact Below.refl _ _) | (with_reducible assumption) | (with_reducible refine Below.alloc ?_ ?_ _) | (with_reducible refine Below.drew ?_) | (with_reducible refine below_drewN ?_ _) | (with_reducible refine Below.setCell ?_ ?_ _) | (with_reducible refine chain ?_ (by assumption) ?_) | omega | (simp; done) | (simp; omega)))
  go_wp2_with (fail)
  refine (vm_i_t (xs := ys) HP.out ?_ HM.out).mono ?_
  · exact HB.out.mono (by (repeat' (first | (with_reducible exact Below.refl _ _) | (with_reducible assumption) | (with_reducible refine Below.alloc ?_ ?_ _) | (with_reducible refine Below.drew ?_) | (with_reducible refine below_drewN ?_ _) | (with_reducible refine Below.setCell ?_ ?_ _) | (with_reducible refine chain ?_ (by assumption) ?_) | omega | (simp; done) | (simp; omega))))
  rintro ee w2 ⟨rfl, hb2⟩
  have hz2 := hb2.size
  have hw2 : Below w.heap.size w w2 := chain hw1 hb2 hw1.size
  have Xa2 := hid (Xa1.out.mono hb2)
  have Xb2 := hid (Xb1.out.mono hb2)
  clear Xa1 Xb1 hc1 hf1
  have ca0 := Xa2.out.c 0 rfl
  have ca1 := Xa2.out.c 1 rfl
  have ca2 := Xa2.out.c 2 rfl
  have cb0 := Xb2.out.c 0 rfl
  have cb1 := Xb2.out.c 1 rfl
  have cb2 := Xb2.out.c 2 rfl
  have la := Xa2.out.lt
  have lb := Xb2.out.lt
  go_wp2_with (fail)
  go_loopg [16] 8 (fun q s1 wr => ∃ k : Nat, k + q = 8 ∧ s1 = .int .i64 (k : Int) ∧ Hid (Bx wr (w.heap.size) 26 #[.int .i64 r, .int .i64 c, .slice A n cp]) ∧ Hid (Bx wr (w.heap.size + 1) 26 #[.int .i64 r', .int .i64 c', .slice B m cp']) ∧ Hid (∀ i, i < k → badK r c r' c' n xs ys i = true) ∧ w2.heap.size ≤ wr.heap.size ∧ Below w.heap.size w wr)
  case atStart => exact ⟨0, by omega, rfl, Xa2, Xb2, fun i hi => absurd hi (Nat.not_lt_zero i), Nat.le_refl _, hw2⟩
  case round =>
    clear ca0 ca1 ca2 cb0 cb1 cb2 la lb
    clear Xa2 Xb2
    obtain ⟨k, hk, rfl, Xa, Xb, HJ, hsz, hB⟩ := hrel
    have ca0 := Xa.out.c 0 rfl
    have ca1 := Xa.out.c 1 rfl
    have ca2 := Xa.out.c 2 rfl
    have cb0 := Xb.out.c 0 rfl
    have cb1 := Xb.out.c 1 rfl
    have cb2 := Xb.out.c 2 rfl
    have la := Xa.out.lt
    have lb := Xb.out.lt
    have hBq := hB.size
    cases gk with
    | zero =>
      obtain rfl : k = 8 := by omega
      go_wp2_with (fail)
      refine bodyPost_ret (v := .tuple #[.int .i64 0, .bool false, .bool true]) (by first | (simp [results, Try.results53, go_sem, *]; done) | (simp (disch := (first | omega | (simp; done) | (simp; omega))) [results, Try.results53, go_sem, *]; done) | (simp only [results, Try.results53]; go_simp; done)) rfl (PH.none HJ.out rfl (by (repeat' (first | (with_reducible exact Below.refl _ _) | (with_reducible assumption) | (with_reducible refine Below.alloc ?_ ?_ _) | (with_reducible refine Below.drew ?_) | (with_reducible refine below_drewN ?_ _) | (with_reducible refine Below.setCell ?_ ?_ _) | (with_reducible refine chain ?_ (by assumption) ?_) | omega | (simp; done) | (simp; omega)))))
    | succ m9 =>
      have hk8 : k < 8 := by omega
      have k1 : (k : Int) < 8 := by omega
      cases hq : badK r c r' c' n xs ys k
      · have HQ := hid hq
        clear hq
        go_wp2_with (fail)
        have yca0 : wr.drew.cell? ⟨w.heap.size, 0, none⟩ = some (.int .i64 r) := ca0
        have yca1 : wr.drew.cell? ⟨w.heap.size, 1, none⟩ = some (.int .i64 c) := ca1
        have yca2 : wr.drew.cell? ⟨w.heap.size, 2, none⟩ = some (.slice A n cp) := ca2
        have ycb0 : wr.drew.cell? ⟨w.heap.size + 1, 0, none⟩ = some (.int .i64 r') := cb0
        have ycb1 : wr.drew.cell? ⟨w.heap.size + 1, 1, none⟩ = some (.int .i64 c') := cb1
        have ycb2 : wr.drew.cell? ⟨w.heap.size + 1, 2, none⟩ = some (.slice B m cp') := cb2
        refine wp_region_x (fun w' => w'.cell? ⟨w.heap.size, 0, none⟩ = some (.int .i64 r) ∧ w'.cell? ⟨w.heap.size, 1, none⟩ = some (.int .i64 c) ∧ w'.cell? ⟨w.heap.size, 2, none⟩ = some (.slice A n cp) ∧ w'.cell? ⟨w.heap.size + 1, 0, none⟩ = some (.int .i64 r') ∧ w'.cell? ⟨w.heap.size + 1, 1, none⟩ = some (.int .i64 c') ∧ w'.cell? ⟨w.heap.size + 1, 2, none⟩ = some (.slice B m cp')) 1000 (by kernel_rfl) ⟨yca0, yca1, yca2, ycb0, ycb1, ycb2⟩ (fun hS0 => ?_)
        refine wpAnyX_take (i := 0) (oi := _) (v := ?_) rfl (by kernel_rfl) (by kernel_rfl) (by kernel_rfl) (by kernel_rfl) (fun _ _ _ h => h) (Or.inl ⟨by rfl, ?_⟩) hS0 ?_
        rotate_left 1
        · (intro w hSw; (try dsimp only at hSw); go_simp; (try with_reducible rfl))
        try simp only [Act.put, List.setIfInBounds_toArray, List.set_cons_zero, List.set_cons_succ]
        refine wpAnyX_take (i := 1) (oi := _) (v := ?_) rfl (by kernel_rfl) (by kernel_rfl) (by kernel_rfl) (by kernel_rfl) (fun _ _ _ h => h) (Or.inl ⟨by rfl, ?_⟩) hS0 ?_
        rotate_left 1
        · (intro w hSw; (try dsimp only at hSw); go_simp; (try with_reducible rfl))
        try simp only [Act.put, List.setIfInBounds_toArray, List.set_cons_zero, List.set_cons_succ]
        refine wpAnyX_take (i := 2) (oi := _) (v := ?_) rfl (by kernel_rfl) (by kernel_rfl) (by kernel_rfl) (by kernel_rfl) (fun _ _ _ h => h) (Or.inl ⟨by rfl, ?_⟩) hS0 ?_
        rotate_left 1
        · (intro w hSw; (try dsimp only at hSw); go_simp; (try with_reducible rfl))
        try simp only [Act.put, List.setIfInBounds_toArray, List.set_cons_zero, List.set_cons_succ]
        refine wpAnyX_one (i := 3) (o := _) rfl (by kernel_rfl) (fun K hK => ?_)
        go_simp
        refine (omp (m := k) hk8 (by omega) (by omega) (by omega)).mono ?_
        rintro ee w8 ⟨rfl, hb80⟩
        have hb8 := undrewE hb80
        have hz8 := hb8.size
        have hB8 : Below w.heap.size w w8 := chain hB hb8 hBq
        refine hK.out _ _ (fun _ => ?_) (fun hS1 => ?_)
        · exact ⟨kc hb80 (hS0.1), kc hb80 (hS0.2.1), kc hb80 (hS0.2.2.1), kc hb80 (hS0.2.2.2.1), kc hb80 (hS0.2.2.2.2.1), kc hb80 (hS0.2.2.2.2.2)⟩
        clear hK K
        have hS1 := hS1 (by decide)
        try simp only [Act.put, List.setIfInBounds_toArray, List.set_cons_zero, List.set_cons_succ]
        refine wpAnyX_one (i := 4) (o := _) rfl (by kernel_rfl) (fun K hK => ?_)
        go_simp
        refine (im_y (r := r) (c := c) (r' := r') (c' := c') (n := n) (m := m) (k := k) (xs := xs) (ys := ys) (HA.out.mono hB8) (HB.out.mono hB8) HN.out HM.out hn5 HD.out hk8 HY.out HQ.out).mono ?_
        rintro ee w9 ⟨rfl, hb9⟩
        have hz9 := hb9.size
        have hB9 : Below w.heap.size w w9 := chain hB8 hb9 hB8.size
        refine hK.out _ _ (fun _ => ?_) (fun hS2 => ?_)
        · exact ⟨kc hb9 (hS1.1), kc hb9 (hS1.2.1), kc hb9 (hS1.2.2.1), kc hb9 (hS1.2.2.2.1), kc hb9 (hS1.2.2.2.2.1), kc hb9 (hS1.2.2.2.2.2)⟩
        clear hK K
        have hS2 := hS2 (by decide)
        try simp only [Act.put, List.setIfInBounds_toArray, List.set_cons_zero, List.set_cons_succ]
        refine wpAnyX_done (by kernel_rfl) ?_ _
        go_wp2_with (fail)
        refine bodyPost_ret (v := .tuple #[.int .i64 (k : Int), .bool true, .bool true]) (by first | (simp [results, Try.results53, go_sem, *]; done) | (simp (disch := (first | omega | (simp; done) | (simp; omega))) [results, Try.results53, go_sem, *]; done) | (simp only [results, Try.results53]; go_simp; done)) rfl (PH.found hk8 HJ.out HQ.out rfl (by (repeat' (first | (with_reducible exact Below.refl _ _) | (with_reducible assumption) | (with_reducible refine Below.alloc ?_ ?_ _) | (with_reducible refine Below.drew ?_) | (with_reducible refine below_drewN ?_ _) | (with_reducible refine Below.setCell ?_ ?_ _) | (with_reducible refine chain ?_ (by assumption) ?_) | omega | (simp; done) | (simp; omega)))))
      · have HQ := hid hq
        clear hq
        go_wp2_with (fail)
        have yca0 : wr.drew.cell? ⟨w.heap.size, 0, none⟩ = some (.int .i64 r) := ca0
        have yca1 : wr.drew.cell? ⟨w.heap.size, 1, none⟩ = some (.int .i64 c) := ca1
        have yca2 : wr.drew.cell? ⟨w.heap.size, 2, none⟩ = some (.slice A n cp) := ca2
        have ycb0 : wr.drew.cell? ⟨w.heap.size + 1, 0, none⟩ = some (.int .i64 r') := cb0
        have ycb1 : wr.drew.cell? ⟨w.heap.size + 1, 1, none⟩ = some (.int .i64 c') := cb1
        have ycb2 : wr.drew.cell? ⟨w.heap.size + 1, 2, none⟩ = some (.slice B m cp') := cb2
        refine wp_region_x (fun w' => w'.cell? ⟨w.heap.size, 0, none⟩ = some (.int .i64 r) ∧ w'.cell? ⟨w.heap.size, 1, none⟩ = some (.int .i64 c) ∧ w'.cell? ⟨w.heap.size, 2, none⟩ = some (.slice A n cp) ∧ w'.cell? ⟨w.heap.size + 1, 0, none⟩ = some (.int .i64 r') ∧ w'.cell? ⟨w.heap.size + 1, 1, none⟩ = some (.int .i64 c') ∧ w'.cell? ⟨w.heap.size + 1, 2, none⟩ = some (.slice B m cp')) 1000 (by kernel_rfl) ⟨yca0, yca1, yca2, ycb0, ycb1, ycb2⟩ (fun hS0 => ?_)
        refine wpAnyX_take (i := 0) (oi := _) (v := ?_) rfl (by kernel_rfl) (by kernel_rfl) (by kernel_rfl) (by kernel_rfl) (fun _ _ _ h => h) (Or.inl ⟨by rfl, ?_⟩) hS0 ?_
        rotate_left 1
        · (intro w hSw; (try dsimp only at hSw); go_simp; (try with_reducible rfl))
        try simp only [Act.put, List.setIfInBounds_toArray, List.set_cons_zero, List.set_cons_succ]
        refine wpAnyX_take (i := 1) (oi := _) (v := ?_) rfl (by kernel_rfl) (by kernel_rfl) (by kernel_rfl) (by kernel_rfl) (fun _ _ _ h => h) (Or.inl ⟨by rfl, ?_⟩) hS0 ?_
        rotate_left 1
        · (intro w hSw; (try dsimp only at hSw); go_simp; (try with_reducible rfl))
        try simp only [Act.put, List.setIfInBounds_toArray, List.set_cons_zero, List.set_cons_succ]
        refine wpAnyX_take (i := 2) (oi := _) (v := ?_) rfl (by kernel_rfl) (by kernel_rfl) (by kernel_rfl) (by kernel_rfl) (fun _ _ _ h => h) (Or.inl ⟨by rfl, ?_⟩) hS0 ?_
        rotate_left 1
        · (intro w hSw; (try dsimp only at hSw); go_simp; (try with_reducible rfl))
        try simp only [Act.put, List.setIfInBounds_toArray, List.set_cons_zero, List.set_cons_succ]
        refine wpAnyX_one (i := 3) (o := _) rfl (by kernel_rfl) (fun K hK => ?_)
        go_simp
        refine (omp (m := k) hk8 (by omega) (by omega) (by omega)).mono ?_
        rintro ee w8 ⟨rfl, hb80⟩
        have hb8 := undrewE hb80
        have hz8 := hb8.size
        have hB8 : Below w.heap.size w w8 := chain hB hb8 hBq
        refine hK.out _ _ (fun _ => ?_) (fun hS1 => ?_)
        · exact ⟨kc hb80 (hS0.1), kc hb80 (hS0.2.1), kc hb80 (hS0.2.2.1), kc hb80 (hS0.2.2.2.1), kc hb80 (hS0.2.2.2.2.1), kc hb80 (hS0.2.2.2.2.2)⟩
        clear hK K
        have hS1 := hS1 (by decide)
        try simp only [Act.put, List.setIfInBounds_toArray, List.set_cons_zero, List.set_cons_succ]
        refine wpAnyX_one (i := 4) (o := _) rfl (by kernel_rfl) (fun K hK => ?_)
        go_simp
        refine (im_n (r := r) (c := c) (r' := r') (c' := c') (n := n) (m := m) (k := k) (xs := xs) (ys := ys) (HA.out.mono hB8) (HB.out.mono hB8) HN.out HM.out hn5 HD.out hk8 HY.out HQ.out).mono ?_
        rintro ee w9 ⟨rfl, hb9⟩
        have hz9 := hb9.size
        have hB9 : Below w.heap.size w w9 := chain hB8 hb9 hB8.size
        refine hK.out _ _ (fun _ => ?_) (fun hS2 => ?_)
        · exact ⟨kc hb9 (hS1.1), kc hb9 (hS1.2.1), kc hb9 (hS1.2.2.1), kc hb9 (hS1.2.2.2.1), kc hb9 (hS1.2.2.2.2.1), kc hb9 (hS1.2.2.2.2.2)⟩
        clear hK K
        have hS2 := hS2 (by decide)
        try simp only [Act.put, List.setIfInBounds_toArray, List.set_cons_zero, List.set_cons_succ]
        refine wpAnyX_done (by kernel_rfl) ?_ _
        go_wp2_with (fail)
        go_roundg m9
        case measure => omega
        case rel =>
          refine ⟨k + 1, by omega, by go_num, hid ((Xa.out.mono hb8).mono hb9), hid ((Xb.out.mono hb8).mono hb9), ?_, by omega, hB9⟩
          show ∀ i, i < k + 1 → _
          intro i hi
          by_cases e : i = k
          · subst e; exact HQ.out
          · exact HJ.out i (by omega)

set_option maxRecDepth 100000 in
set_option maxHeartbeats 4000000 in
theorem lt_r {r c r' c' : Int} {A B : Option Addr} {n m cp cp' k : Nat} {w : World} (h : r ≠ r') :
    Calls Try.prog 154 #[mv r c A n cp, mv r' c' B m cp', .int .i64 (k : Int)] w fun ee w' => ee = .returned (.bool false) ∧ Below w.heap.size w w' := by
  have h1 : (r == r') = false := by simpa using h
  have h2 : (r != r') = true := by simpa using h
  clear h
  go_enter Try.func154, Try.ntmps154
  go_wp2_with (fail)
  go_ret
  refine ⟨rfl, ?_⟩
  (repeat' (first | (with_reducible exact Below.refl _ _) | (with_reducible assumption) | (with_reducible refine Below.alloc ?_ ?_ _) | (with_reducible refine Below.drew ?_) | (with_reducible refine below_drewN ?_ _) | (with_reducible refine Below.setCell ?_ ?_ _) | (with_reducible refine chain ?_ (by assumption) ?_) | omega | (simp; done) | (simp; omega)))

set_option maxRecDepth 100000 in
set_option maxHeartbeats 4000000 in
theorem lt_c {r c r' c' : Int} {A B : Option Addr} {n m cp cp' k : Nat} {w : World} (h0 : r = r') (h : c ≠ c') :
    Calls Try.prog 154 #[mv r c A n cp, mv r' c' B m cp', .int .i64 (k : Int)] w fun ee w' => ee = .returned (.bool false) ∧ Below w.heap.size w w' := by
  subst h0
  have h1 : (c == c') = false := by simpa using h
  have h2 : (c != c') = true := by simpa using h
  clear h
  go_enter Try.func154, Try.ntmps154
  go_wp2_with (fail)
  go_ret
  refine ⟨rfl, ?_⟩
  (repeat' (first | (with_reducible exact Below.refl _ _) | (with_reducible assumption) | (with_reducible refine Below.alloc ?_ ?_ _) | (with_reducible refine Below.drew ?_) | (with_reducible refine below_drewN ?_ _) | (with_reducible refine Below.setCell ?_ ?_ _) | (with_reducible refine chain ?_ (by assumption) ?_) | omega | (simp; done) | (simp; omega)))

theorem turn_v {m : Nat} {x : D5} : (turn m x).v = dy (turn m x).a (turn m x).b (turn m x).c (turn m x).d x.e := by
  show dy _ _ _ _ (turn m x).e = _
  rw [turn_e]
theorem ok_vr {x : D5} (h : x.ok = true) : vr x.a x.b x.c x.d = true := by
  obtain ⟨e, h1, h2⟩ := ok_nat h
  exact (vd_iff.1 h2).1
theorem tn_x {x : D5} {m : Nat} {w : World} (hm : m < 8) (hx : x.ok = true) :
    Calls Try.prog 170 #[rg x.a x.b x.c x.d, .int .i64 (m : Int)] w fun ee w' => ee = .returned (rg (turn m x).a (turn m x).b (turn m x).c (turn m x).d) ∧ Below w.heap.size w w' :=
  tn_s (e := x.e) hm (by omega) (ok_vr hx)

set_option maxRecDepth 100000 in
set_option maxHeartbeats 8000000 in
theorem lt_l {r c : Int} {A B : Option Addr} {n cp cp' k : Nat} {xs ys : List D5} {w : World} (hA : Rd w A xs) (hB : Rd w B ys) (hn : xs.length = n) (hm : ys.length = n) (hb : n ≤ 1048576) (hk : k < 8) (hy : allB ys = true) :
    Calls Try.prog 154 #[mv r c A n cp, mv r c B n cp', .int .i64 (k : Int)] w fun ee w' => EF w w' ee (anyB n (neB k xs ys)) := by
  have HA := hid hA
  have HB := hid hB
  have HN := hid hn
  have HM := hid hm
  have HY := hid hy
  have HK := hid hk
  clear hA hB hn hm hy hk
  go_enter Try.func154, Try.ntmps154
  go_wp2_with (fail)
  go_loopg [24] n (fun q s1 wr => ∃ j : Nat, j + q = n ∧ s1 = .int .i64 (j : Int) ∧ Hid (Bx wr (w.heap.size) 26 #[.int .i64 r, .int .i64 c, .slice A n cp]) ∧ Hid (Bx wr (w.heap.size + 1) 26 #[.int .i64 r, .int .i64 c, .slice B n cp']) ∧ Hid (∀ i, i < j → neB k xs ys i = false) ∧ w.heap.size + 1 + 1 ≤ wr.heap.size ∧ Below w.heap.size w wr)
  case atStart => exact ⟨0, by omega, rfl, (by show Bx _ _ _ _; (repeat' (first | (with_reducible assumption) | (refine Bx.new (by first | (with_reducible rfl) | (simp; done))) | (with_reducible refine Bx.alloc ?_ _) | (with_reducible refine Bx.drew ?_) | (with_reducible refine Bx.drewN ?_ _) | (with_reducible refine Bx.mono ?_ (by assumption)) | (with_reducible refine Bx.badly ?_ (by assumption) (by omega)) | (with_reducible refine Bx.far ?_ (by (try simp only [World.size_alloc, World.size_drew]); omega)) | (with_reducible refine Bx.set ?_ rfl) | (with_reducible refine Bx.grown ?_ (by assumption) (by assumption))))), (by show Bx _ _ _ _; (repeat' (first | (with_reducible assumption) | (refine Bx.new (by first | (with_reducible rfl) | (simp; done))) | (with_reducible refine Bx.alloc ?_ _) | (with_reducible refine Bx.drew ?_) | (with_reducible refine Bx.drewN ?_ _) | (with_reducible refine Bx.mono ?_ (by assumption)) | (with_reducible refine Bx.badly ?_ (by assumption) (by omega)) | (with_reducible refine Bx.far ?_ (by (try simp only [World.size_alloc, World.size_drew]); omega)) | (with_reducible refine Bx.set ?_ rfl) | (with_reducible refine Bx.grown ?_ (by assumption) (by assumption))))), fun i hi => absurd hi (Nat.not_lt_zero i), by simp, by (repeat' (first | (with_reducible exact Below.refl _ _) | (with_reducible assumption) | (with_reducible refine Below.alloc ?_ ?_ _) | (with_reducible refine Below.drew ?_) | (with_reducible refine below_drewN ?_ _) | (with_reducible refine Below.setCell ?_ ?_ _) | (with_reducible refine chain ?_ (by assumption) ?_) | omega | (simp; done) | (simp; omega)))⟩
  case round =>
    obtain ⟨j, hj, rfl, Xa, Xb, HJ, hsz, hB⟩ := hrel
    have ca0 := Xa.out.c 0 rfl
    have ca1 := Xa.out.c 1 rfl
    have ca2 := Xa.out.c 2 rfl
    have cb0 := Xb.out.c 0 rfl
    have cb1 := Xb.out.c 1 rfl
    have cb2 := Xb.out.c 2 rfl
    have la := Xa.out.lt
    have lb := Xb.out.lt
    have hBq := hB.size
    cases gk with
    | zero =>
      obtain rfl : j = n := by omega
      go_wp2_with (fail)
      go_ret
      refine ⟨fun h => ?_, fun _ => rfl, hB⟩
      rw [anyB_f HJ.out] at h; cases h
    | succ m =>
      have hlt : j < n := by omega
      have j1 : (j : Int) < (n : Int) := by omega
      obtain ⟨x, hx⟩ : ∃ x, xs[j]? = some x := ⟨_, List.getElem?_eq_getElem (by rw [HN.out]; exact hlt)⟩
      obtain ⟨y, hy⟩ : ∃ y, ys[j]? = some y := ⟨_, List.getElem?_eq_getElem (by rw [HM.out]; exact hlt)⟩
      obtain ⟨g, o, rfl, hC⟩ := HA.out j x hx
      obtain ⟨g', o', rfl, hC'⟩ := HB.out j y hy
      have HKy := hid (all_get HY.out hy)
      have HX := hid hx
      have HYj := hid hy
      clear hx hy
      obtain ⟨q0, q1, q2, q3, q4⟩ := hC.at_ (hB.block g hC.lt)
      obtain ⟨p0, p1, p2, p3, p4⟩ := hC'.at_ (hB.block g' hC'.lt)
      have lq := World.block_lt_of_cell? _ _ q0
      have lp := World.block_lt_of_cell? _ _ p0
      (try dsimp only at lq lp)
      clear hC hC'
      go_wp2_with (fail)
      refine (tn_x (x := y) (m := k) HK.out HKy.out).mono ?_
      rintro ee w1 ⟨rfl, hb1⟩
      have Xt : Bx w1 wr.heap.size 37 #[.int .i64 y.a, .int .i64 y.b, .int .i64 y.c, .int .i64 y.d, .int .i64 y.e] := Bx.mono (Bx.new rfl) hb1
      have hz1 := hb1.size
      (try simp only [World.size_alloc] at hz1)
      have hb2 : Below wr.heap.size wr w1 := chain ((Below.refl _ _).alloc (Nat.le_refl _) _) hb1 (by simp)
      have hB1 : Below w.heap.size w w1 := chain hB hb2 hBq
      have Ya := hid (Xa.out.mono hb2)
      have Yb := hid (Xb.out.mono hb2)
      have d0 := Xt.c 0 rfl
      have d1 := Xt.c 1 rfl
      have d2 := Xt.c 2 rfl
      have d3 := Xt.c 3 rfl
      have d4 := Xt.c 4 rfl
      have df := Xt.f
      have z0 := kc hb2 q0
      have z1 := kc hb2 q1
      have z2 := kc hb2 q2
      have z3 := kc hb2 q3
      have z4 := kc hb2 q4
      have HXT := hid Xt
      clear ca0 ca1 ca2 cb0 cb1 cb2 q0 q1 q2 q3 q4 p0 p1 p2 p3 p4 Xa Xb Xt
      have ca0 := Ya.out.c 0 rfl
      have ca1 := Ya.out.c 1 rfl
      have ca2 := Ya.out.c 2 rfl
      have n1 : g ≠ wr.heap.size := by omega
      have n2 : w.heap.size ≠ wr.heap.size := by omega
      have n3 : wr.heap.size ≠ w.heap.size := by omega
      have n4 : wr.heap.size ≠ g := by omega
      clear hb1 hb2
      by_cases hxy : x = turn k y
      · have HXY := hid hxy
        have hop : ∀ w : World, (binOp .neq 37 x.v (dy (turn k y).a (turn k y).b (turn k y).c (turn k y).d y.e)).run Try.prog w = .ok (.bool false) w := fun w => by rw [← turn_v]; rw [← hxy]; exact neq_f x w
        clear hxy
        go_wp2_with (fail)
        go_quiet (fail)
        go_wp2_with (fail)
        go_roundg m
        case measure => omega
        case rel =>
          refine ⟨j + 1, by omega, by go_num, ?_, ?_, ?_, by rw [show ∀ (X : World) (n : Nat), (X.drewN n).heap.size = X.heap.size from fun _ _ => rfl]; simp only [World.size_setCell]; omega, (by (repeat' (first | (with_reducible exact Below.refl _ _) | (with_reducible assumption) | (with_reducible refine Below.alloc ?_ ?_ _) | (with_reducible refine Below.drew ?_) | (with_reducible refine below_drewN ?_ _) | (with_reducible refine Below.setCell ?_ ?_ _) | (with_reducible refine chain ?_ (by assumption) ?_) | omega | (simp; done) | (simp; omega))))⟩
          · show Bx _ _ _ _
            have R := Ya.out
            (repeat' (first | (with_reducible assumption) | (with_reducible refine Bx.alloc ?_ _) | (with_reducible refine Bx.drew ?_) | (with_reducible refine Bx.drewN ?_ _) | (with_reducible refine Bx.mono ?_ (by assumption)) | (with_reducible refine Bx.badly ?_ (by assumption) (by omega)) | (with_reducible refine Bx.far ?_ (by (try simp only [World.size_alloc, World.size_drew]); omega)) | (with_reducible refine Bx.set ?_ rfl) | (with_reducible refine Bx.grown ?_ (by assumption) (by assumption))))
          · show Bx _ _ _ _
            have R := Yb.out
            (repeat' (first | (with_reducible assumption) | (with_reducible refine Bx.alloc ?_ _) | (with_reducible refine Bx.drew ?_) | (with_reducible refine Bx.drewN ?_ _) | (with_reducible refine Bx.mono ?_ (by assumption)) | (with_reducible refine Bx.badly ?_ (by assumption) (by omega)) | (with_reducible refine Bx.far ?_ (by (try simp only [World.size_alloc, World.size_drew]); omega)) | (with_reducible refine Bx.set ?_ rfl) | (with_reducible refine Bx.grown ?_ (by assumption) (by assumption))))
          · show ∀ i, i < j + 1 → _
            intro i hi
            by_cases e : i = j
            · subst e; exact neB_f HX.out HYj.out HXY.out
            · exact HJ.out i (by omega)
      · have HXY := hid hxy
        have hop : ∀ w : World, (binOp .neq 37 x.v (dy (turn k y).a (turn k y).b (turn k y).c (turn k y).d y.e)).run Try.prog w = .ok (.bool true) w := fun w => by rw [← turn_v]; exact neq_t hxy w
        clear hxy
        go_wp2_with (fail)
        go_quiet (fail)
        go_wp2_with (fail)
        go_ret
        refine ⟨fun _ => rfl, fun h => ?_, ?_⟩
        · rw [anyB_of hlt (neB_t HX.out HYj.out HXY.out)] at h; cases h
        · (repeat' (first | (with_reducible exact Below.refl _ _) | (with_reducible assumption) | (with_reducible refine Below.alloc ?_ ?_ _) | (with_reducible refine Below.drew ?_) | (with_reducible refine below_drewN ?_ _) | (with_reducible refine Below.setCell ?_ ?_ _) | (with_reducible refine chain ?_ (by assumption) ?_) | omega | (simp; done) | (simp; omega)))

end Go.Proofs.Ytncgccpkbneagaa
namespace Go.Proofs.Ytncgccpkbneagaa
open Go.RowKit RM
set_option linter.unusedVariables false
set_option linter.unusedSimpArgs false
attribute [local irreducible] World.setCell

theorem lt {r c r' c' : Int} {A B : Option Addr} {n m cp cp' k : Nat} {xs ys : List D5} {w : World} (hA : Rd w A xs) (hB : Rd w B ys) (hn : xs.length = n) (hm : ys.length = m) (hb : n ≤ 1048576) (hd : r = r' → c = c' → n = m) (hk : k < 8) (hy : allB ys = true) :
    Calls Try.prog 154 #[mv r c A n cp, mv r' c' B m cp', .int .i64 (k : Int)] w fun ee w' => EF w w' ee (badK r c r' c' n xs ys k) := by
  by_cases hr : r = r'
  · by_cases hc : c = c'
    · subst hr hc
      obtain rfl := hd rfl rfl
      refine (lt_l hA hB hn hm hb hk hy).mono fun ee w' h => ?_
      unfold badK
      rw [show (r != r) = false by simp, show (c != c) = false by simp, Bool.false_or, Bool.false_or]
      exact h
    · refine (lt_c hr hc).mono fun ee w' h => ⟨fun _ => h.1, fun h2 => ?_, h.2⟩
      unfold badK at h2
      rw [show (c != c') = true by simpa using hc] at h2
      simp at h2
  · refine (lt_r hr).mono fun ee w' h => ⟨fun _ => h.1, fun h2 => ?_, h.2⟩
    unfold badK at h2
    rw [show (r != r') = true by simpa using hr] at h2
    simp at h2

set_option maxRecDepth 100000 in
set_option maxHeartbeats 8000000 in
theorem lp {r c r' c' : Int} {A B : Option Addr} {n m cp cp' : Nat} {xs ys : List D5} {w : World} (hA : Rd w A xs) (hB : Rd w B ys) (hn : xs.length = n) (hm : ys.length = m) (hb : n ≤ 1048576) (hd : r = r' → c = c' → n = m) (hy : allB ys = true) :
    Calls Try.prog 109 #[mv r c A n cp, mv r' c' B m cp'] w fun ee w' => PH mk2 (badK r c r' c' n xs ys) w w' ee := by
  have HA := hid hA
  have HB := hid hB
  have HN := hid hn
  have HM := hid hm
  have HD := hid hd
  have HY := hid hy
  clear hA hB hn hm hd hy
  go_enter Try.func109, Try.ntmps109
  go_wp2_with (fail)
  go_loopg [6] 8 (fun q s1 wr => ∃ k : Nat, k + q = 8 ∧ s1 = .int .i64 (k : Int) ∧ Hid (Bx wr (w.heap.size) 26 #[.int .i64 r, .int .i64 c, .slice A n cp]) ∧ Hid (Bx wr (w.heap.size + 1) 26 #[.int .i64 r', .int .i64 c', .slice B m cp']) ∧ Hid (∀ i, i < k → badK r c r' c' n xs ys i = true) ∧ w.heap.size + 1 + 1 ≤ wr.heap.size ∧ Below w.heap.size w wr)
  case atStart => exact ⟨0, by omega, rfl, (by show Bx _ _ _ _; (repeat' (first | (with_reducible assumption) | (refine Bx.new (by first | (with_reducible rfl) | (simp; done))) | (with_reducible refine Bx.alloc ?_ _) | (with_reducible refine Bx.drew ?_) | (with_reducible refine Bx.drewN ?_ _) | (with_reducible refine Bx.mono ?_ (by assumption)) | (with_reducible refine Bx.badly ?_ (by assumption) (by omega)) | (with_reducible refine Bx.far ?_ (by (try simp only [World.size_alloc, World.size_drew]); omega)) | (with_reducible refine Bx.set ?_ rfl) | (with_reducible refine Bx.grown ?_ (by assumption) (by assumption))))), (by show Bx _ _ _ _; (repeat' (first | (with_reducible assumption) | (refine Bx.new (by first | (with_reducible rfl) | (simp; done))) | (with_reducible refine Bx.alloc ?_ _) | (with_reducible refine Bx.drew ?_) | (with_reducible refine Bx.drewN ?_ _) | (with_reducible refine Bx.mono ?_ (by assumption)) | (with_reducible refine Bx.badly ?_ (by assumption) (by omega)) | (with_reducible refine Bx.far ?_ (by (try simp only [World.size_alloc, World.size_drew]); omega)) | (with_reducible refine Bx.set ?_ rfl) | (with_reducible refine Bx.grown ?_ (by assumption) (by assumption))))), fun i hi => absurd hi (Nat.not_lt_zero i), by simp, by (repeat' (first | (with_reducible exact Below.refl _ _) | (with_reducible assumption) | (with_reducible refine Below.alloc ?_ ?_ _) | (with_reducible refine Below.drew ?_) | (with_reducible refine below_drewN ?_ _) | (with_reducible refine Below.setCell ?_ ?_ _) | (with_reducible refine chain ?_ (by assumption) ?_) | omega | (simp; done) | (simp; omega)))⟩
  case round =>
    obtain ⟨k, hk, rfl, Xa, Xb, HJ, hsz, hB⟩ := hrel
    have ca0 := Xa.out.c 0 rfl
    have ca1 := Xa.out.c 1 rfl
    have ca2 := Xa.out.c 2 rfl
    have cb0 := Xb.out.c 0 rfl
    have cb1 := Xb.out.c 1 rfl
    have cb2 := Xb.out.c 2 rfl
    have la := Xa.out.lt
    have lb := Xb.out.lt
    have hBq := hB.size
    cases gk with
    | zero =>
      obtain rfl : k = 8 := by omega
      go_wp2_with (fail)
      refine bodyPost_ret (v := .tuple #[.int .i64 0, .bool false]) (by first | (simp [results, Try.results109, go_sem, *]; done) | (simp (disch := (first | omega | (simp; done) | (simp; omega))) [results, Try.results109, go_sem, *]; done) | (simp only [results, Try.results109]; go_simp; done)) rfl (PH.none HJ.out rfl (by (repeat' (first | (with_reducible exact Below.refl _ _) | (with_reducible assumption) | (with_reducible refine Below.alloc ?_ ?_ _) | (with_reducible refine Below.drew ?_) | (with_reducible refine below_drewN ?_ _) | (with_reducible refine Below.setCell ?_ ?_ _) | (with_reducible refine chain ?_ (by assumption) ?_) | omega | (simp; done) | (simp; omega)))))
    | succ m9 =>
      have hk8 : k < 8 := by omega
      have k1 : (k : Int) < 8 := by omega
      cases hq : badK r c r' c' n xs ys k
      · have HQ := hid hq
        clear hq
        go_wp2_with (fail)
        refine (lt (k := k) (xs := xs) (ys := ys) (HA.out.mono hB) (HB.out.mono hB) HN.out HM.out hb HD.out hk8 HY.out).mono ?_
        rintro ee w9 ⟨h1, h2, hb9⟩
        obtain rfl := h2 HQ.out
        clear h1 h2
        have hz9 := hb9.size
        have hB9 : Below w.heap.size w w9 := chain hB hb9 hBq
        go_wp2_with (fail)
        refine bodyPost_ret (v := .tuple #[.int .i64 (k : Int), .bool true]) (by first | (simp [results, Try.results109, go_sem, *]; done) | (simp (disch := (first | omega | (simp; done) | (simp; omega))) [results, Try.results109, go_sem, *]; done) | (simp only [results, Try.results109]; go_simp; done)) rfl (PH.found hk8 HJ.out HQ.out rfl (by (repeat' (first | (with_reducible exact Below.refl _ _) | (with_reducible assumption) | (with_reducible refine Below.alloc ?_ ?_ _) | (with_reducible refine Below.drew ?_) | (with_reducible refine below_drewN ?_ _) | (with_reducible refine Below.setCell ?_ ?_ _) | (with_reducible refine chain ?_ (by assumption) ?_) | omega | (simp; done) | (simp; omega)))))
      · have HQ := hid hq
        clear hq
        go_wp2_with (fail)
        refine (lt (k := k) (xs := xs) (ys := ys) (HA.out.mono hB) (HB.out.mono hB) HN.out HM.out hb HD.out hk8 HY.out).mono ?_
        rintro ee w9 ⟨h1, h2, hb9⟩
        obtain rfl := h1 HQ.out
        clear h1 h2
        have hz9 := hb9.size
        have hB9 : Below w.heap.size w w9 := chain hB hb9 hBq
        go_wp2_with (fail)
        go_roundg m9
        case measure => omega
        case rel =>
          refine ⟨k + 1, by omega, by go_num, hid (Xa.out.mono hb9), hid (Xb.out.mono hb9), ?_, by omega, hB9⟩
          show ∀ i, i < k + 1 → _
          intro i hi
          by_cases e : i = k
          · subst e; exact HQ.out
          · exact HJ.out i (by omega)

end Go.Proofs.Ytncgccpkbneagaa
namespace Go.Proofs.Ytncgccpkbneagaa
open Go.RowKit RM
set_option linter.unusedVariables false
set_option linter.unusedSimpArgs false
attribute [local irreducible] World.setCell

open GM
set_option maxRecDepth 100000 in
set_option maxHeartbeats 4000000 in
theorem ip_s_f {a0 : Int} {A : Option Addr} {m c1 : Nat} {gs : List C4.GateV} {w : World} (hF : ∀ W : World, Below w.heap.size w W → Calls Try.prog 45 #[C4.circuitV a0 A m c1] W fun ee w' => ee = .returned (mt 0 0 none 0 0 false) ∧ Below W.heap.size W w') :
    Calls Try.prog 56 #[C4.circuitV a0 A m c1] w fun ee w' => ee = .returned (.tuple #[.int .i64 0, .bool false, .bool false]) ∧ Below w.heap.size w w' := by
  have HF := hid hF
  clear hF
  go_enter Try.func56, Try.ntmps56
  go_wp2_with (fail)
  refine (HF.out _ (by (repeat' (first | (with_reducible exact Below.refl _ _) | (with_reducible assumption) | (with_reducible refine Below.alloc ?_ ?_ _) | (with_reducible refine Below.drew ?_) | (with_reducible refine below_drewN ?_ _) | (with_reducible refine Below.setCell ?_ ?_ _) | (with_reducible refine chain ?_ (by assumption) ?_) | omega | (simp; done) | (simp; omega))))).mono ?_
  rintro ee w1 ⟨rfl, hb1⟩
  obtain ⟨hc1, hf1, _⟩ := bcell hb1; have hz1 := hb1.size; (try simp at hz1); (try have hx10 : w.heap.size < w1.heap.size := (by omega)); (try have hx11 : w.heap.size + 1 < w1.heap.size := (by omega)); (try have hx12 : w.heap.size + 1 + 1 < w1.heap.size := (by omega))
  go_wp2_with (fail)
  refine bodyPost_ret (v := .tuple #[.int .i64 0, .bool false, .bool false]) (by first | (simp [results, Try.results56, go_sem, *]; done) | (simp (disch := (first | omega | (simp; done) | (simp; omega))) [results, Try.results56, go_sem, *]; done) | (simp only [results, Try.results56]; go_simp; done)) rfl ⟨rfl, ?_⟩
  (repeat' (first | (with_reducible exact Below.refl _ _) | (with_reducible assumption) | (with_reducible refine Below.alloc ?_ ?_ _) | (with_reducible refine Below.drew ?_) | (with_reducible refine below_drewN ?_ _) | (with_reducible refine Below.setCell ?_ ?_ _) | (with_reducible refine chain ?_ (by assumption) ?_) | omega | (simp; done) | (simp; omega)))

set_option maxRecDepth 100000 in
set_option maxHeartbeats 4000000 in
theorem ip_i_f {a0 : Int} {A : Option Addr} {m c1 : Nat} {gs : List C4.GateV} {w : World} (hF : ∀ W : World, Below w.heap.size w W → Calls Try.prog 47 #[C4.circuitV a0 A m c1] W fun ee w' => ee = .returned (mt 0 0 none 0 0 false) ∧ Below W.heap.size W w') :
    Calls Try.prog 57 #[C4.circuitV a0 A m c1] w fun ee w' => ee = .returned (.tuple #[.int .i64 0, .bool false, .bool false]) ∧ Below w.heap.size w w' := by
  have HF := hid hF
  clear hF
  go_enter Try.func57, Try.ntmps57
  go_wp2_with (fail)
  refine (HF.out _ (by (repeat' (first | (with_reducible exact Below.refl _ _) | (with_reducible assumption) | (with_reducible refine Below.alloc ?_ ?_ _) | (with_reducible refine Below.drew ?_) | (with_reducible refine below_drewN ?_ _) | (with_reducible refine Below.setCell ?_ ?_ _) | (with_reducible refine chain ?_ (by assumption) ?_) | omega | (simp; done) | (simp; omega))))).mono ?_
  rintro ee w1 ⟨rfl, hb1⟩
  obtain ⟨hc1, hf1, _⟩ := bcell hb1; have hz1 := hb1.size; (try simp at hz1); (try have hx10 : w.heap.size < w1.heap.size := (by omega)); (try have hx11 : w.heap.size + 1 < w1.heap.size := (by omega)); (try have hx12 : w.heap.size + 1 + 1 < w1.heap.size := (by omega))
  go_wp2_with (fail)
  refine bodyPost_ret (v := .tuple #[.int .i64 0, .bool false, .bool false]) (by first | (simp [results, Try.results57, go_sem, *]; done) | (simp (disch := (first | omega | (simp; done) | (simp; omega))) [results, Try.results57, go_sem, *]; done) | (simp only [results, Try.results57]; go_simp; done)) rfl ⟨rfl, ?_⟩
  (repeat' (first | (with_reducible exact Below.refl _ _) | (with_reducible assumption) | (with_reducible refine Below.alloc ?_ ?_ _) | (with_reducible refine Below.drew ?_) | (with_reducible refine below_drewN ?_ _) | (with_reducible refine Below.setCell ?_ ?_ _) | (with_reducible refine chain ?_ (by assumption) ?_) | omega | (simp; done) | (simp; omega)))

set_option maxRecDepth 100000 in
set_option maxHeartbeats 8000000 in
theorem ip_i_t {a0 : Int} {A : Option Addr} {m c1 D NN : Nat} {gs : List C4.GateV} {zs : List D5} {w : World} (hF : ∀ W : World, Below w.heap.size w W → Calls Try.prog 47 #[C4.circuitV a0 A m c1] W fun ee w' => ∃ h : Nat, ee = .returned (mt (D : Int) (D : Int) (some ⟨h, 0, none⟩) NN NN true) ∧ Bk w' h 37 zs ∧ Below W.heap.size W w') (hl : zs.length = NN) (hNN : NN = D * D) (h1 : 1 ≤ D) (d32 : D ≤ 32) (hzs : okM (D : Int) (D : Int) NN zs = true) :
    Calls Try.prog 57 #[C4.circuitV a0 A m c1] w fun ee w' => PH mk3 (badK (D : Int) (D : Int) (D : Int) (D : Int) NN zs (tab NN (unitP D D))) w w' ee := by
  have HF := hid hF
  have HL := hid hl
  have nn5 : NN ≤ 1024 := by rw [hNN]; exact Nat.mul_le_mul d32 d32
  have EQ := hid hNN
  have hdd := (okM_iff.1 hzs).1
  have DD := hid hdd
  have HZ := hid hzs
  have hu : okM (D : Int) (D : Int) NN (tab NN (unitP D D)) = true := okM_iff.2 ⟨hdd, hdd, by rw [hNN]; simp, unit_ok D⟩
  have HU := hid hu
  clear hF hl hNN hdd hzs hu
  go_enter Try.func57, Try.ntmps57
  go_wp2_with (fail)
  refine (HF.out _ (by (repeat' (first | (with_reducible exact Below.refl _ _) | (with_reducible assumption) | (with_reducible refine Below.alloc ?_ ?_ _) | (with_reducible refine Below.drew ?_) | (with_reducible refine below_drewN ?_ _) | (with_reducible refine Below.setCell ?_ ?_ _) | (with_reducible refine chain ?_ (by assumption) ?_) | omega | (simp; done) | (simp; omega))))).mono ?_
  rintro ee w1 ⟨h, rfl, hK1, hb1⟩
  have hz1 := hb1.size
  (try simp only [World.size_alloc] at hz1)
  have hw1 : Below w.heap.size w w1 := by (repeat' (first | (with_reducible exact Below.refl _ _) | (with_reducible assumption) | (with_reducible refine Below.alloc ?_ ?_ _) | (with_reducible refine Below.drew ?_) | (with_reducible refine below_drewN ?_ _) | (with_reducible refine Below.setCell ?_ ?_ _) | (with_reducible refine chain ?_ (by assumption) ?_) | omega | (simp; done) | (simp; omega)))
  have HK1 := hid hK1
  clear hK1 hb1
  go_wp2_with (fail)
  refine (id_i_t (N := D) (n := NN) DD.out EQ.out h1 d32 nn5).mono ?_
  rintro ee w2 ⟨g, rfl, hK2, hg2, hb2⟩
  have hz2 := hb2.size
  (try simp only [World.size_alloc] at hz2)
  have hb12 : Below w1.heap.size w1 w2 := by (repeat' (first | (with_reducible exact Below.refl _ _) | (with_reducible assumption) | (with_reducible refine Below.alloc ?_ ?_ _) | (with_reducible refine Below.drew ?_) | (with_reducible refine below_drewN ?_ _) | (with_reducible refine Below.setCell ?_ ?_ _) | (with_reducible refine chain ?_ (by assumption) ?_) | omega | (simp; done) | (simp; omega)))
  have hw2 : Below w.heap.size w w2 := chain hw1 hb12 hw1.size
  have Xm : Bx w2 w1.heap.size 26 #[.int .i64 (D : Int), .int .i64 (D : Int), .slice (some ⟨h, 0, none⟩) NN NN] := Bx.mono (Bx.new rfl) hb2
  have cm0 := Xm.c 0 rfl
  have cm1 := Xm.c 1 rfl
  have cm2 := Xm.c 2 rfl
  have lm := Xm.lt
  have HK2 := hid hK2
  clear hK2 hb2
  go_wp2_with (fail)
  refine (up_i_t (xs := zs) (ys := tab NN (unitP D D)) ?_ ?_ HL.out (tab_len _ _) HZ.out HU.out).mono ?_
  · exact (HK1.out.mono hb12).rd.mono (by (repeat' (first | (with_reducible exact Below.refl _ _) | (with_reducible assumption) | (with_reducible refine Below.alloc ?_ ?_ _) | (with_reducible refine Below.drew ?_) | (with_reducible refine below_drewN ?_ _) | (with_reducible refine Below.setCell ?_ ?_ _) | (with_reducible refine chain ?_ (by assumption) ?_) | omega | (simp; done) | (simp; omega))))
  · exact HK2.out.rd.mono (by (repeat' (first | (with_reducible exact Below.refl _ _) | (with_reducible assumption) | (with_reducible refine Below.alloc ?_ ?_ _) | (with_reducible refine Below.drew ?_) | (with_reducible refine below_drewN ?_ _) | (with_reducible refine Below.setCell ?_ ?_ _) | (with_reducible refine chain ?_ (by assumption) ?_) | omega | (simp; done) | (simp; omega))))
  rintro ee w3 ⟨q1, q2, hb3⟩
  have hz3 := hb3.size
  (try simp only [World.size_alloc] at hz3)
  have hb23 : Below w2.heap.size w2 w3 := by (repeat' (first | (with_reducible exact Below.refl _ _) | (with_reducible assumption) | (with_reducible refine Below.alloc ?_ ?_ _) | (with_reducible refine Below.drew ?_) | (with_reducible refine below_drewN ?_ _) | (with_reducible refine Below.setCell ?_ ?_ _) | (with_reducible refine chain ?_ (by assumption) ?_) | omega | (simp; done) | (simp; omega)))
  have hw3 : Below w.heap.size w w3 := chain hw2 hb23 hw2.size
  rcases ph_any (badK (D : Int) (D : Int) (D : Int) (D : Int) NN zs (tab NN (unitP D D))) with ⟨K, k1, k2, k3⟩ | k
  · obtain rfl : ee = .returned (.tuple #[.int .i64 (K : Int), .bool true, .bool true]) := q1 K k1 k2 k3
    have K1 := hid k1
    have K2 := hid k2
    have K3 := hid k3
    clear q1 q2 k1 k2 k3
    go_wp2_with (fail)
    refine bodyPost_ret (v := .tuple #[.int .i64 (K : Int), .bool true, .bool true]) (by first | (simp [results, Try.results57, go_sem, *]; done) | (simp (disch := (first | omega | (simp; done) | (simp; omega))) [results, Try.results57, go_sem, *]; done) | (simp only [results, Try.results57]; go_simp; done)) rfl (PH.found K1.out K2.out K3.out rfl hw3)
  · obtain rfl : ee = .returned (.tuple #[.int .i64 0, .bool false, .bool true]) := q2 k
    have HH := hid k
    clear q1 q2 k
    go_wp2_with (fail)
    refine bodyPost_ret (v := .tuple #[.int .i64 0, .bool false, .bool true]) (by first | (simp [results, Try.results57, go_sem, *]; done) | (simp (disch := (first | omega | (simp; done) | (simp; omega))) [results, Try.results57, go_sem, *]; done) | (simp only [results, Try.results57]; go_simp; done)) rfl (PH.none HH.out rfl hw3)

end Go.Proofs.Ytncgccpkbneagaa
namespace Go.Proofs.Ytncgccpkbneagaa
open Go.RowKit RM
set_option linter.unusedVariables false
set_option linter.unusedSimpArgs false
attribute [local irreducible] World.setCell

open GM
set_option maxRecDepth 100000 in
set_option maxHeartbeats 8000000 in
theorem ip_s_t {a0 : Int} {A : Option Addr} {m c1 D NN : Nat} {gs : List C4.GateV} {zs : List D5} {w : World} (hF : ∀ W : World, Below w.heap.size w W → Calls Try.prog 45 #[C4.circuitV a0 A m c1] W fun ee w' => ∃ (Bo : Option Addr) (cq : Nat), ee = .returned (mt (D : Int) (D : Int) Bo NN cq true) ∧ Rd w' Bo zs ∧ Below W.heap.size W w') (hl : zs.length = NN) (hNN : NN = D * D) (h1 : 1 ≤ D) (d32 : D ≤ 32) :
    Calls Try.prog 56 #[C4.circuitV a0 A m c1] w fun ee w' => PH mk3 (badK (D : Int) (D : Int) (D : Int) (D : Int) NN zs (tab NN (unitP D D))) w w' ee := by
  have HF := hid hF
  have HL := hid hl
  have nn5 : NN ≤ 1024 := by rw [hNN]; exact Nat.mul_le_mul d32 d32
  have EQ := hid hNN
  clear hF hl hNN
  go_enter Try.func56, Try.ntmps56
  go_wp2_with (fail)
  refine (HF.out _ (by (repeat' (first | (with_reducible exact Below.refl _ _) | (with_reducible assumption) | (with_reducible refine Below.alloc ?_ ?_ _) | (with_reducible refine Below.drew ?_) | (with_reducible refine below_drewN ?_ _) | (with_reducible refine Below.setCell ?_ ?_ _) | (with_reducible refine chain ?_ (by assumption) ?_) | omega | (simp; done) | (simp; omega))))).mono ?_
  rintro ee w1 ⟨Bo, cq, rfl, hR1, hb1⟩
  have hz1 := hb1.size
  (try simp only [World.size_alloc] at hz1)
  have hw1 : Below w.heap.size w w1 := by (repeat' (first | (with_reducible exact Below.refl _ _) | (with_reducible assumption) | (with_reducible refine Below.alloc ?_ ?_ _) | (with_reducible refine Below.drew ?_) | (with_reducible refine below_drewN ?_ _) | (with_reducible refine Below.setCell ?_ ?_ _) | (with_reducible refine chain ?_ (by assumption) ?_) | omega | (simp; done) | (simp; omega)))
  have HR1 := hid hR1
  clear hR1 hb1
  go_upto_region 4 with (fail)
  obtain ⟨W, hW⟩ : ∃ W : World, W = w1.alloc (.cells #[.int .i64 (D : Int), .int .i64 (D : Int), .slice Bo NN cq] 26) := ⟨_, rfl⟩
  have hbW : Below w1.heap.size w1 W := by rw [hW]; exact (Below.refl _ _).alloc (Nat.le_refl _) _
  have Xm : Bx W w1.heap.size 26 #[.int .i64 (D : Int), .int .i64 (D : Int), .slice Bo NN cq] := by rw [hW]; exact Bx.new rfl
  have hzW : w1.heap.size < W.heap.size := by rw [hW]; simp
  rw [← hW]
  clear hW
  have hwW : Below w.heap.size w W := chain hw1 hbW hw1.size
  have cm0 := Xm.c 0 rfl
  have cm1 := Xm.c 1 rfl
  have cm2 := Xm.c 2 rfl
  rcases ph_any (badK (D : Int) (D : Int) (D : Int) (D : Int) NN zs (tab NN (unitP D D))) with ⟨Kk, k1, k2, k3⟩ | k
  · have K1 := hid k1
    have K2 := hid k2
    have K3 := hid k3
    clear k1 k2 k3
    have ycm0 : W.drew.cell? ⟨w1.heap.size, 0, none⟩ = some (.int .i64 (D : Int)) := cm0
    have ycm1 : W.drew.cell? ⟨w1.heap.size, 1, none⟩ = some (.int .i64 (D : Int)) := cm1
    have ycm2 : W.drew.cell? ⟨w1.heap.size, 2, none⟩ = some (.slice Bo NN cq) := cm2
    refine wp_region_x (fun w' => w'.cell? ⟨w1.heap.size, 0, none⟩ = some (.int .i64 (D : Int)) ∧ w'.cell? ⟨w1.heap.size, 1, none⟩ = some (.int .i64 (D : Int)) ∧ w'.cell? ⟨w1.heap.size, 2, none⟩ = some (.slice Bo NN cq)) 1000 (by kernel_rfl) ⟨ycm0, ycm1, ycm2⟩ (fun hS0 => ?_)
    refine wpAnyX_take (i := 0) (oi := _) (v := ?_) rfl (by kernel_rfl) (by kernel_rfl) (by kernel_rfl) (by kernel_rfl) (fun _ _ _ h => h) (Or.inl ⟨by rfl, ?_⟩) hS0 ?_
    rotate_left 1
    · (intro w hSw; (try dsimp only at hSw); go_simp; (try with_reducible rfl))
    try simp only [Act.put, List.setIfInBounds_toArray, List.set_cons_zero, List.set_cons_succ]
    refine wpAnyX_take (i := 1) (oi := _) (v := ?_) rfl (by kernel_rfl) (by kernel_rfl) (by kernel_rfl) (by kernel_rfl) (fun _ _ _ h => h) (Or.inl ⟨by rfl, ?_⟩) hS0 ?_
    rotate_left 1
    · (intro w hSw; (try dsimp only at hSw); go_simp; (try with_reducible rfl))
    try simp only [Act.put, List.setIfInBounds_toArray, List.set_cons_zero, List.set_cons_succ]
    refine wpAnyX_take (i := 2) (oi := _) (v := ?_) rfl (by kernel_rfl) (by kernel_rfl) (by kernel_rfl) (by kernel_rfl) (fun _ _ _ h => h) (Or.inl ⟨by rfl, ?_⟩) hS0 ?_
    rotate_left 1
    · (intro w hSw; (try dsimp only at hSw); go_simp; (try with_reducible rfl))
    try simp only [Act.put, List.setIfInBounds_toArray, List.set_cons_zero, List.set_cons_succ]
    refine wpAnyX_one (i := 3) (o := _) rfl (by kernel_rfl) (fun K hK => ?_)
    go_simp
    refine (unit_s (N := D) (n := NN) EQ.out h1 d32 nn5).mono ?_
    rintro ee w2 ⟨rfl, hK2, hb20⟩
    have hb2 := undrewK hb20
    have hz2 := hb2.size
    refine hK.out _ _ (fun _ => ?_) (fun hS1 => ?_)
    · exact ⟨kc hb20 (hS0.1), kc hb20 (hS0.2.1), kc hb20 (hS0.2.2)⟩
    clear hK K
    have hS1 := hS1 (by decide)
    try simp only [Act.put, List.setIfInBounds_toArray, List.set_cons_zero, List.set_cons_succ]
    refine wpAnyX_one (i := 4) (o := _) rfl (by kernel_rfl) (fun K hK => ?_)
    go_simp
    refine (lp (xs := zs) (ys := tab NN (unitP D D)) ((HR1.out.mono hbW).mono hb2) hK2.rd HL.out (tab_len _ _) (by omega) (fun _ _ => rfl) (unit_ok D)).mono ?_
    rintro ee w3 ⟨q1, q2, hb3⟩
    have hz3 := hb3.size
    obtain rfl : ee = .returned (.tuple #[.int .i64 (Kk : Int), .bool true]) := q1 Kk K1.out K2.out K3.out
    refine hK.out _ _ (fun _ => ?_) (fun hS2 => ?_)
    · exact ⟨kc hb3 (hS1.1), kc hb3 (hS1.2.1), kc hb3 (hS1.2.2)⟩
    clear hK K
    have hS2 := hS2 (by decide)
    try simp only [Act.put, List.setIfInBounds_toArray, List.set_cons_zero, List.set_cons_succ]
    refine wpAnyX_take (i := 5) (oi := _) (v := ?_) rfl (by kernel_rfl) (by kernel_rfl) (by kernel_rfl) (by kernel_rfl) (fun _ _ _ h => h) (Or.inl ⟨by rfl, ?_⟩) hS2 ?_
    rotate_left 1
    · (intro w hSw; (try dsimp only at hSw); go_simp; (try with_reducible rfl))
    try simp only [Act.put, List.setIfInBounds_toArray, List.set_cons_zero, List.set_cons_succ]
    refine wpAnyX_take (i := 6) (oi := _) (v := ?_) rfl (by kernel_rfl) (by kernel_rfl) (by kernel_rfl) (by kernel_rfl) (fun _ _ _ h => h) (Or.inl ⟨by rfl, ?_⟩) hS2 ?_
    rotate_left 1
    · (intro w hSw; (try dsimp only at hSw); go_simp; (try with_reducible rfl))
    try simp only [Act.put, List.setIfInBounds_toArray, List.set_cons_zero, List.set_cons_succ]
    refine wpAnyX_take (i := 7) (oi := _) (v := ?_) rfl (by kernel_rfl) (by kernel_rfl) (by kernel_rfl) (by kernel_rfl) (fun _ _ _ h => h) (Or.inl ⟨by rfl, ?_⟩) hS2 ?_
    rotate_left 1
    · (intro w hSw; (try dsimp only at hSw); go_simp; (try with_reducible rfl))
    try simp only [Act.put, List.setIfInBounds_toArray, List.set_cons_zero, List.set_cons_succ]
    refine wpAnyX_take (i := 8) (oi := _) (v := ?_) rfl (by kernel_rfl) (by kernel_rfl) (by kernel_rfl) (by kernel_rfl) (fun _ _ _ h => h) (Or.inl ⟨by rfl, ?_⟩) hS2 ?_
    rotate_left 1
    · (intro w hSw; (try dsimp only at hSw); go_simp; (try with_reducible rfl))
    try simp only [Act.put, List.setIfInBounds_toArray, List.set_cons_zero, List.set_cons_succ]
    refine wpAnyX_take (i := 9) (oi := _) (v := ?_) rfl (by kernel_rfl) (by kernel_rfl) (by kernel_rfl) (by kernel_rfl) (fun _ _ _ h => h) (Or.inl ⟨by rfl, ?_⟩) hS2 ?_
    rotate_left 1
    · (intro w hSw; (try dsimp only at hSw); go_simp; (try with_reducible rfl))
    change wpAnyX _ _ _ _ _ _ _ _ (Act.put _ (some 8) _) _
    try simp only [Act.put, List.setIfInBounds_toArray, List.set_cons_zero, List.set_cons_succ]
    refine wpAnyX_done (by kernel_rfl) ?_ _
    have hB2 : Below w.heap.size w w2 := chain hwW hb2 hwW.size
    have hw3 : Below w.heap.size w w3 := chain hB2 hb3 hB2.size
    clear q1 q2
    go_wp2_with (fail)
    refine bodyPost_ret (v := .tuple #[.int .i64 (Kk : Int), .bool true, .bool true]) (by first | (simp [results, Try.results56, go_sem, *]; done) | (simp (disch := (first | omega | (simp; done) | (simp; omega))) [results, Try.results56, go_sem, *]; done) | (simp only [results, Try.results56]; go_simp; done)) rfl (PH.found K1.out K2.out K3.out rfl hw3)
  · have HH := hid k
    clear k
    have ycm0 : W.drew.cell? ⟨w1.heap.size, 0, none⟩ = some (.int .i64 (D : Int)) := cm0
    have ycm1 : W.drew.cell? ⟨w1.heap.size, 1, none⟩ = some (.int .i64 (D : Int)) := cm1
    have ycm2 : W.drew.cell? ⟨w1.heap.size, 2, none⟩ = some (.slice Bo NN cq) := cm2
    refine wp_region_x (fun w' => w'.cell? ⟨w1.heap.size, 0, none⟩ = some (.int .i64 (D : Int)) ∧ w'.cell? ⟨w1.heap.size, 1, none⟩ = some (.int .i64 (D : Int)) ∧ w'.cell? ⟨w1.heap.size, 2, none⟩ = some (.slice Bo NN cq)) 1000 (by kernel_rfl) ⟨ycm0, ycm1, ycm2⟩ (fun hS0 => ?_)
    refine wpAnyX_take (i := 0) (oi := _) (v := ?_) rfl (by kernel_rfl) (by kernel_rfl) (by kernel_rfl) (by kernel_rfl) (fun _ _ _ h => h) (Or.inl ⟨by rfl, ?_⟩) hS0 ?_
    rotate_left 1
    · (intro w hSw; (try dsimp only at hSw); go_simp; (try with_reducible rfl))
    try simp only [Act.put, List.setIfInBounds_toArray, List.set_cons_zero, List.set_cons_succ]
    refine wpAnyX_take (i := 1) (oi := _) (v := ?_) rfl (by kernel_rfl) (by kernel_rfl) (by kernel_rfl) (by kernel_rfl) (fun _ _ _ h => h) (Or.inl ⟨by rfl, ?_⟩) hS0 ?_
    rotate_left 1
    · (intro w hSw; (try dsimp only at hSw); go_simp; (try with_reducible rfl))
    try simp only [Act.put, List.setIfInBounds_toArray, List.set_cons_zero, List.set_cons_succ]
    refine wpAnyX_take (i := 2) (oi := _) (v := ?_) rfl (by kernel_rfl) (by kernel_rfl) (by kernel_rfl) (by kernel_rfl) (fun _ _ _ h => h) (Or.inl ⟨by rfl, ?_⟩) hS0 ?_
    rotate_left 1
    · (intro w hSw; (try dsimp only at hSw); go_simp; (try with_reducible rfl))
    try simp only [Act.put, List.setIfInBounds_toArray, List.set_cons_zero, List.set_cons_succ]
    refine wpAnyX_one (i := 3) (o := _) rfl (by kernel_rfl) (fun K hK => ?_)
    go_simp
    refine (unit_s (N := D) (n := NN) EQ.out h1 d32 nn5).mono ?_
    rintro ee w2 ⟨rfl, hK2, hb20⟩
    have hb2 := undrewK hb20
    have hz2 := hb2.size
    refine hK.out _ _ (fun _ => ?_) (fun hS1 => ?_)
    · exact ⟨kc hb20 (hS0.1), kc hb20 (hS0.2.1), kc hb20 (hS0.2.2)⟩
    clear hK K
    have hS1 := hS1 (by decide)
    try simp only [Act.put, List.setIfInBounds_toArray, List.set_cons_zero, List.set_cons_succ]
    refine wpAnyX_one (i := 4) (o := _) rfl (by kernel_rfl) (fun K hK => ?_)
    go_simp
    refine (lp (xs := zs) (ys := tab NN (unitP D D)) ((HR1.out.mono hbW).mono hb2) hK2.rd HL.out (tab_len _ _) (by omega) (fun _ _ => rfl) (unit_ok D)).mono ?_
    rintro ee w3 ⟨q1, q2, hb3⟩
    have hz3 := hb3.size
    obtain rfl : ee = .returned (.tuple #[.int .i64 0, .bool false]) := q2 HH.out
    refine hK.out _ _ (fun _ => ?_) (fun hS2 => ?_)
    · exact ⟨kc hb3 (hS1.1), kc hb3 (hS1.2.1), kc hb3 (hS1.2.2)⟩
    clear hK K
    have hS2 := hS2 (by decide)
    try simp only [Act.put, List.setIfInBounds_toArray, List.set_cons_zero, List.set_cons_succ]
    refine wpAnyX_take (i := 5) (oi := _) (v := ?_) rfl (by kernel_rfl) (by kernel_rfl) (by kernel_rfl) (by kernel_rfl) (fun _ _ _ h => h) (Or.inl ⟨by rfl, ?_⟩) hS2 ?_
    rotate_left 1
    · (intro w hSw; (try dsimp only at hSw); go_simp; (try with_reducible rfl))
    try simp only [Act.put, List.setIfInBounds_toArray, List.set_cons_zero, List.set_cons_succ]
    refine wpAnyX_take (i := 6) (oi := _) (v := ?_) rfl (by kernel_rfl) (by kernel_rfl) (by kernel_rfl) (by kernel_rfl) (fun _ _ _ h => h) (Or.inl ⟨by rfl, ?_⟩) hS2 ?_
    rotate_left 1
    · (intro w hSw; (try dsimp only at hSw); go_simp; (try with_reducible rfl))
    try simp only [Act.put, List.setIfInBounds_toArray, List.set_cons_zero, List.set_cons_succ]
    refine wpAnyX_take (i := 7) (oi := _) (v := ?_) rfl (by kernel_rfl) (by kernel_rfl) (by kernel_rfl) (by kernel_rfl) (fun _ _ _ h => h) (Or.inl ⟨by rfl, ?_⟩) hS2 ?_
    rotate_left 1
    · (intro w hSw; (try dsimp only at hSw); go_simp; (try with_reducible rfl))
    try simp only [Act.put, List.setIfInBounds_toArray, List.set_cons_zero, List.set_cons_succ]
    refine wpAnyX_take (i := 8) (oi := _) (v := ?_) rfl (by kernel_rfl) (by kernel_rfl) (by kernel_rfl) (by kernel_rfl) (fun _ _ _ h => h) (Or.inl ⟨by rfl, ?_⟩) hS2 ?_
    rotate_left 1
    · (intro w hSw; (try dsimp only at hSw); go_simp; (try with_reducible rfl))
    try simp only [Act.put, List.setIfInBounds_toArray, List.set_cons_zero, List.set_cons_succ]
    refine wpAnyX_take (i := 9) (oi := _) (v := ?_) rfl (by kernel_rfl) (by kernel_rfl) (by kernel_rfl) (by kernel_rfl) (fun _ _ _ h => h) (Or.inl ⟨by rfl, ?_⟩) hS2 ?_
    rotate_left 1
    · (intro w hSw; (try dsimp only at hSw); go_simp; (try with_reducible rfl))
    change wpAnyX _ _ _ _ _ _ _ _ (Act.put _ (some 8) _) _
    try simp only [Act.put, List.setIfInBounds_toArray, List.set_cons_zero, List.set_cons_succ]
    refine wpAnyX_done (by kernel_rfl) ?_ _
    have hB2 : Below w.heap.size w w2 := chain hwW hb2 hwW.size
    have hw3 : Below w.heap.size w w3 := chain hB2 hb3 hB2.size
    clear q1 q2
    go_wp2_with (fail)
    refine bodyPost_ret (v := .tuple #[.int .i64 0, .bool false, .bool true]) (by first | (simp [results, Try.results56, go_sem, *]; done) | (simp (disch := (first | omega | (simp; done) | (simp; omega))) [results, Try.results56, go_sem, *]; done) | (simp only [results, Try.results56]; go_simp; done)) rfl (PH.none HH.out rfl hw3)

end Go.Proofs.Ytncgccpkbneagaa
namespace Go.Proofs.Ytncgccpkbneagaa
open Go.RowKit RM
set_option linter.unusedVariables false
set_option linter.unusedSimpArgs false
attribute [local irreducible] World.setCell

open GM
theorem apl_ok {n D C : Nat} (hD : dimB (D : Int) = true) (hC : dimB (C : Int) = true) : ∀ (gs : List C4.GateV) (xs ys : List D5), (∀ (i : Nat) (g : C4.GateV), gs[i]? = some g → C4.vgB (n : Int) g = true) → okM (D : Int) (C : Int) (D * C) xs = true → apl n D C gs xs = some ys → okM (D : Int) (C : Int) (D * C) ys = true := by
  intro gs
  induction gs with
  | nil => intro xs ys _ hx h; obtain rfl := Option.some.inj h; exact hx
  | cons g gs ih =>
    intro xs ys hG hx h
    have h2 : (if stB n D C g xs then none else apl n D C gs (stF n D C g xs)) = some ys := h
    split at h2
    · cases h2
    · exact ih _ _ (fun i g hg => hG (i + 1) g (by rw [List.getElem?_cons_succ]; exact hg)) (stF_okM hD hC (vg_nat (hG 0 g rfl)).1 (okM_iff.1 hx).2.2.2) h2
theorem opL_ok {m n : Nat} {xs : List C4.GateV} {zs : List D5} (h1 : 1 ≤ m) (h5 : m ≤ 5) (hok : C4.okC (m : Int) n xs = true) (hq : opL m xs = some zs) : okM ((2 ^ m : Nat) : Int) ((2 ^ m : Nat) : Int) (2 ^ m * 2 ^ m) zs = true := by
  obtain ⟨m', e, -, -, -, hG⟩ := okC_nat hok
  obtain rfl : m = m' := by omega
  obtain ⟨d2, d32, dw, dw2, dd⟩ := pow_dim h1 h5 (D := 2 ^ m) rfl
  exact apl_ok dd dd xs _ zs hG (okM_iff.2 ⟨dd, dd, by simp, unit_ok _⟩) hq
set_option maxRecDepth 100000 in
set_option maxHeartbeats 4000000 in
theorem bigIsPhase {a0 : Int} {A : Option Addr} {n cp : Nat} {w : World} (hb : 1048576 < n) (hm : n ≤ maxLen) :
    Calls Try.prog 14 #[C4.circuitV a0 A n cp] w fun ee w' => ee = .returned (.bool true) ∧ Below w.heap.size w w' := by
  have hu : n ≤ 9223372036854775807 := by unfold maxLen at hm; omega
  have hb0 : (1048576 : Int) < (n : Int) := by omega
  have hb1 : 1048576 ≤ (1048576 : Int) := by omega
  have hb2 : (0 : Int) ≤ 1048576 := by omega
  go_enter Try.func14, Try.ntmps14
  go_wp2_with (fail)
  refine (C4.szCircuit_f hb0 hb1 hb2 hm).mono ?_
  rintro ee v ⟨rfl, hv⟩
  go_wp2_with (fail)
  go_ret
  refine ⟨rfl, ?_⟩
  (repeat' (first | (with_reducible exact Below.refl _ _) | (with_reducible assumption) | (with_reducible refine Below.alloc ?_ ?_ _) | (with_reducible refine Below.drew ?_) | (with_reducible refine below_drewN ?_ _) | (with_reducible refine Below.setCell ?_ ?_ _) | (with_reducible refine chain ?_ (by assumption) ?_) | omega | (simp; done) | (simp; omega)))

set_option maxRecDepth 100000 in
set_option maxHeartbeats 8000000 in
theorem lwIsPhase {a0 : Int} {A : Option Addr} {n cp : Nat} {xs : List C4.GateV} {K : Int} {b1 b2 : Bool} {w : World} (hS : ∀ (g : Nat) (w : World), C4.Rd C4.gateE w (some ⟨g, 0, none⟩) xs → g < w.heap.size → Calls Try.prog 56 #[C4.circuitV a0 (some ⟨g, 0, none⟩) n n] w fun ee w' => ee = .returned (.tuple #[.int .i64 K, .bool b1, .bool b2]) ∧ Below w.heap.size w w') (hI : ∀ (g : Nat) (w : World), C4.Rd C4.gateE w (some ⟨g, 0, none⟩) xs → g < w.heap.size → Calls Try.prog 57 #[C4.circuitV a0 (some ⟨g, 0, none⟩) n n] w fun ee w' => ee = .returned (.tuple #[.int .i64 K, .bool b1, .bool b2]) ∧ Below w.heap.size w w') (hA : C4.Rd C4.gateE w A xs) (hn : xs.length = n) (hb : n ≤ 1048576) :
    Calls Try.prog 14 #[C4.circuitV a0 A n cp] w fun ee w' => ee = .returned (.bool true) ∧ Below w.heap.size w w' := by
  have HA := hid hA
  have HN := hid hn
  have HS := hid hS
  have HI := hid hI
  have s0 : ¬ (1048576 - (n : Int) < 0) := by omega
  have s1 : (n : Int) ≤ 1048576 := by omega
  have s2 : 0 ≤ 1048576 - (n : Int) := by omega
  clear hA hn hS hI
  go_enter Try.func14, Try.ntmps14
  go_wp2_with (fail)
  refine (C4.szCircuit_t s1 (by decide)).mono ?_
  rintro ee w1 ⟨rfl, hb1⟩
  have hL1 : Below w.heap.size w w1 := by (repeat' (first | (with_reducible exact Below.refl _ _) | (with_reducible assumption) | (with_reducible refine Below.alloc ?_ ?_ _) | (with_reducible refine Below.drew ?_) | (with_reducible refine below_drewN ?_ _) | (with_reducible refine Below.setCell ?_ ?_ _) | (with_reducible refine chain ?_ (by assumption) ?_) | omega | (simp; done) | (simp; omega)))
  have hz1 := hb1.size
  (try simp only [World.size_alloc] at hz1)
  have hB1 : Below w.heap.size w w1 := hL1
  have k1_0_0 : w1.cell? ⟨w.heap.size, 0, none⟩ = some (.int .i64 a0) := (hb1.cell (p := ⟨w.heap.size, 0, none⟩) (by show w.heap.size < _; (try simp only [World.size_alloc]); omega)).trans (by first | rfl | (simp; done) | (simp [*]; done))
  have k1_0_1 : w1.cell? ⟨w.heap.size, 1, none⟩ = some (.slice A n cp) := (hb1.cell (p := ⟨w.heap.size, 1, none⟩) (by show w.heap.size < _; (try simp only [World.size_alloc]); omega)).trans (by first | rfl | (simp; done) | (simp [*]; done))
  have bl1_0 : w.heap.size < w1.heap.size := World.block_lt_of_cell? _ _ k1_0_0
  clear hb1 hL1
  go_wp2_with (fail)
  refine (C4.toCircuit (xs1 := xs) ?_ HN.out hb).mono ?_
  · exact HA.out.mono (by (repeat' (first | (with_reducible exact Below.refl _ _) | (with_reducible assumption) | (with_reducible refine Below.alloc ?_ ?_ _) | (with_reducible refine Below.drew ?_) | (with_reducible refine below_drewN ?_ _) | (with_reducible refine Below.setCell ?_ ?_ _) | (with_reducible refine chain ?_ (by assumption) ?_) | omega | (simp; done) | (simp; omega))))
  rintro ee w2 ⟨g2, rfl, hK2, hg2, hb2⟩
  have hL2 : Below w1.heap.size w1 w2 := by (repeat' (first | (with_reducible exact Below.refl _ _) | (with_reducible assumption) | (with_reducible refine Below.alloc ?_ ?_ _) | (with_reducible refine Below.drew ?_) | (with_reducible refine below_drewN ?_ _) | (with_reducible refine Below.setCell ?_ ?_ _) | (with_reducible refine chain ?_ (by assumption) ?_) | omega | (simp; done) | (simp; omega)))
  have hz2 := hb2.size
  (try simp only [World.size_alloc] at hz2)
  have hB2 : Below w.heap.size w w2 := chain hB1 hL2 hB1.size
  have k2_0_0 : w2.cell? ⟨w.heap.size, 0, none⟩ = some (.int .i64 a0) := (hL2.cell (p := ⟨w.heap.size, 0, none⟩) (by show w.heap.size < w1.heap.size; omega)).trans k1_0_0
  have k2_0_1 : w2.cell? ⟨w.heap.size, 1, none⟩ = some (.slice A n cp) := (hL2.cell (p := ⟨w.heap.size, 1, none⟩) (by show w.heap.size < w1.heap.size; omega)).trans k1_0_1
  have bl2_0 : w.heap.size < w2.heap.size := World.block_lt_of_cell? _ _ k2_0_0
  clear hb2 hL2
  clear k1_0_0 k1_0_1
  go_wp2_with (fail)
  refine (HS.out _ _ ?_ hK2.lt).mono ?_
  · exact hK2.rd
  rintro ee w3 ⟨rfl, hb3⟩
  have hL3 : Below w2.heap.size w2 w3 := by (repeat' (first | (with_reducible exact Below.refl _ _) | (with_reducible assumption) | (with_reducible refine Below.alloc ?_ ?_ _) | (with_reducible refine Below.drew ?_) | (with_reducible refine below_drewN ?_ _) | (with_reducible refine Below.setCell ?_ ?_ _) | (with_reducible refine chain ?_ (by assumption) ?_) | omega | (simp; done) | (simp; omega)))
  have hz3 := hb3.size
  (try simp only [World.size_alloc] at hz3)
  have hB3 : Below w.heap.size w w3 := chain hB2 hL3 hB2.size
  have k3_0_0 : w3.cell? ⟨w.heap.size, 0, none⟩ = some (.int .i64 a0) := (hL3.cell (p := ⟨w.heap.size, 0, none⟩) (by show w.heap.size < w2.heap.size; omega)).trans k2_0_0
  have k3_0_1 : w3.cell? ⟨w.heap.size, 1, none⟩ = some (.slice A n cp) := (hL3.cell (p := ⟨w.heap.size, 1, none⟩) (by show w.heap.size < w2.heap.size; omega)).trans k2_0_1
  have bl3_0 : w.heap.size < w3.heap.size := World.block_lt_of_cell? _ _ k3_0_0
  clear hb3 hL3
  clear k2_0_0 k2_0_1
  clear hK2
  go_wp2_with (fail)
  refine (C4.toCircuit (xs1 := xs) ?_ HN.out hb).mono ?_
  · exact HA.out.mono (by (repeat' (first | (with_reducible exact Below.refl _ _) | (with_reducible assumption) | (with_reducible refine Below.alloc ?_ ?_ _) | (with_reducible refine Below.drew ?_) | (with_reducible refine below_drewN ?_ _) | (with_reducible refine Below.setCell ?_ ?_ _) | (with_reducible refine chain ?_ (by assumption) ?_) | omega | (simp; done) | (simp; omega))))
  rintro ee w4 ⟨g4, rfl, hK4, hg4, hb4⟩
  have hL4 : Below w3.heap.size w3 w4 := by (repeat' (first | (with_reducible exact Below.refl _ _) | (with_reducible assumption) | (with_reducible refine Below.alloc ?_ ?_ _) | (with_reducible refine Below.drew ?_) | (with_reducible refine below_drewN ?_ _) | (with_reducible refine Below.setCell ?_ ?_ _) | (with_reducible refine chain ?_ (by assumption) ?_) | omega | (simp; done) | (simp; omega)))
  have hz4 := hb4.size
  (try simp only [World.size_alloc] at hz4)
  have hB4 : Below w.heap.size w w4 := chain hB3 hL4 hB3.size
  have k4_0_0 : w4.cell? ⟨w.heap.size, 0, none⟩ = some (.int .i64 a0) := (hL4.cell (p := ⟨w.heap.size, 0, none⟩) (by show w.heap.size < w3.heap.size; omega)).trans k3_0_0
  have k4_0_1 : w4.cell? ⟨w.heap.size, 1, none⟩ = some (.slice A n cp) := (hL4.cell (p := ⟨w.heap.size, 1, none⟩) (by show w.heap.size < w3.heap.size; omega)).trans k3_0_1
  have bl4_0 : w.heap.size < w4.heap.size := World.block_lt_of_cell? _ _ k4_0_0
  clear hb4 hL4
  clear k3_0_0 k3_0_1
  (try simp only [World.size_alloc] at hg4)
  have HX4 : Hid (C4.Ow C4.gateE w4 (w3.heap.size) 59 (some ⟨g4, 0, none⟩) xs) := hK4.ow (by omega)
  have hlt4 := hK4.lt
  clear hK4
  have hr_X := HX4.out.row
  go_wp2_with (fail)
  refine (HI.out _ _ ?_ ?_).mono ?_
  · exact HX4.out.rd.mono (by (repeat' (first | (with_reducible exact Below.refl _ _) | (with_reducible assumption) | (with_reducible refine Below.alloc ?_ ?_ _) | (with_reducible refine Below.drew ?_) | (with_reducible refine below_drewN ?_ _) | (with_reducible refine Below.setCell ?_ ?_ _) | (with_reducible refine chain ?_ (by assumption) ?_) | omega | (simp; done) | (simp; omega))))
  · exact (by (try simp only [World.size_alloc]); omega)
  rintro ee w5 ⟨rfl, hb5⟩
  have hL5 : Below w4.heap.size w4 w5 := by (repeat' (first | (with_reducible exact Below.refl _ _) | (with_reducible assumption) | (with_reducible refine Below.alloc ?_ ?_ _) | (with_reducible refine Below.drew ?_) | (with_reducible refine below_drewN ?_ _) | (with_reducible refine Below.setCell ?_ ?_ _) | (with_reducible refine chain ?_ (by assumption) ?_) | omega | (simp; done) | (simp; omega)))
  have hz5 := hb5.size
  (try simp only [World.size_alloc] at hz5)
  have hB5 : Below w.heap.size w w5 := chain hB4 hL5 hB4.size
  have k5_0_0 : w5.cell? ⟨w.heap.size, 0, none⟩ = some (.int .i64 a0) := (hL5.cell (p := ⟨w.heap.size, 0, none⟩) (by show w.heap.size < w4.heap.size; omega)).trans k4_0_0
  have k5_0_1 : w5.cell? ⟨w.heap.size, 1, none⟩ = some (.slice A n cp) := (hL5.cell (p := ⟨w.heap.size, 1, none⟩) (by show w.heap.size < w4.heap.size; omega)).trans k4_0_1
  have k5_1_0 : w5.cell? ⟨w4.heap.size, 0, none⟩ = some (.int .i64 a0) := (hb5.cell (p := ⟨w4.heap.size, 0, none⟩) (by show w4.heap.size < _; (try simp only [World.size_alloc]); omega)).trans (by first | rfl | (simp; done) | (simp [*]; done))
  have k5_1_1 : w5.cell? ⟨w4.heap.size, 1, none⟩ = some (.slice (some ⟨g4, 0, none⟩) n n) := (hb5.cell (p := ⟨w4.heap.size, 1, none⟩) (by show w4.heap.size < _; (try simp only [World.size_alloc]); omega)).trans (by first | rfl | (simp; done) | (simp [*]; done))
  have bl5_0 : w.heap.size < w5.heap.size := World.block_lt_of_cell? _ _ k5_0_0
  have bl5_1 : w4.heap.size < w5.heap.size := World.block_lt_of_cell? _ _ k5_1_0
  have HX5 := hid (HX4.out.mono hL5)
  clear hb5 hL5
  clear k4_0_0 k4_0_1 HX4
  go_wp2_with (fail)
  go_cut [48] (fun s48 wx => CutG (s48 = .bool false) (wx.cell? ⟨w.heap.size, 0, none⟩ = some (.int .i64 a0) ∧ wx.cell? ⟨w.heap.size, 1, none⟩ = some (.slice A n cp) ∧ wx.cell? ⟨w4.heap.size, 0, none⟩ = some (.int .i64 a0) ∧ wx.cell? ⟨w4.heap.size, 1, none⟩ = some (.slice (some ⟨g4, 0, none⟩) n n) ∧ Hid (C4.Ow C4.gateE wx (w3.heap.size) 59 (some ⟨g4, 0, none⟩) xs) ∧ w5.heap.size ≤ wx.heap.size ∧ Below w.heap.size w wx))
  case first =>
    have yk5_0_0 : w5.drew.cell? ⟨w.heap.size, 0, none⟩ = some (.int .i64 a0) := k5_0_0
    have yk5_0_1 : w5.drew.cell? ⟨w.heap.size, 1, none⟩ = some (.slice A n cp) := k5_0_1
    have yk5_1_0 : w5.drew.cell? ⟨w4.heap.size, 0, none⟩ = some (.int .i64 a0) := k5_1_0
    have yk5_1_1 : w5.drew.cell? ⟨w4.heap.size, 1, none⟩ = some (.slice (some ⟨g4, 0, none⟩) n n) := k5_1_1
    have hBz := hB5.size
    go_region_held3 (fun w' => w'.cell? ⟨w.heap.size, 0, none⟩ = some (.int .i64 a0) ∧ w'.cell? ⟨w.heap.size, 1, none⟩ = some (.slice A n cp) ∧ w'.cell? ⟨w4.heap.size, 0, none⟩ = some (.int .i64 a0) ∧ w'.cell? ⟨w4.heap.size, 1, none⟩ = some (.slice (some ⟨g4, 0, none⟩) n n)) (first | (with_reducible exact ⟨yk5_0_0, yk5_0_1, yk5_1_0, yk5_1_1⟩) | (with_reducible exact ⟨k5_0_0, k5_0_1, k5_1_0, k5_1_1⟩) | (go_split_ands; with_reducible exact ⟨kc hv0 (by with_reducible assumption), kc hv0 (by with_reducible assumption), kc hv0 (by with_reducible assumption), kc hv0 (by with_reducible assumption)⟩) | (go_split_ands; with_reducible exact ⟨kc hv1 (by with_reducible assumption), kc hv1 (by with_reducible assumption), kc hv1 (by with_reducible assumption), kc hv1 (by with_reducible assumption)⟩)) (first | (go_at_call 46; ((with_reducible refine (C4.toCircuit (xs1 := xs) ?_ HN.out hb).mono ?_); (exact HA.out.mono (by (repeat' (first | (with_reducible exact Below.refl _ _) | (with_reducible assumption) | (with_reducible refine Below.alloc ?_ ?_ _) | (with_reducible refine Below.drew ?_) | (with_reducible refine below_drewN ?_ _) | (with_reducible refine Below.setCell ?_ ?_ _) | (with_reducible refine chain ?_ (by assumption) ?_) | omega | (simp; done) | (simp; omega))))); rintro ee v0 ⟨g7, rfl, hK0, hg7, hv0⟩; have hq0 := hv0.size; (try simp only [World.size_drew, World.size_alloc] at hq0))) | (go_at_call 48; ((with_reducible refine (C4.eqCircuit (xs1 := xs) ?_ ?_ HN.out hb).mono ?_); (exact HX5.out.rd.mono (by (repeat' (first | (with_reducible exact Below.refl _ _) | (with_reducible assumption) | (with_reducible refine Below.alloc ?_ ?_ _) | (with_reducible refine Below.drew ?_) | (with_reducible refine below_drewN ?_ _) | (with_reducible refine Below.setCell ?_ ?_ _) | (with_reducible refine chain ?_ (by assumption) ?_) | omega | (simp; done) | (simp; omega))))); (exact hK0.rd); rintro ee v1 ⟨rfl, hv1⟩; have hq1 := hv1.size; (try simp only [World.size_drew, World.size_alloc] at hq1))))
    all_goals (go_wp2_with fail; go_meet)
    all_goals go_split_ands
    all_goals (refine ⟨rfl, (by with_reducible assumption), (by with_reducible assumption), (by with_reducible assumption), (by with_reducible assumption), (by exact HX5.out.mono (by (repeat' (first | (with_reducible exact Below.refl _ _) | (with_reducible assumption) | (with_reducible refine Below.alloc ?_ ?_ _) | (with_reducible refine Below.drew ?_) | (with_reducible refine below_drewN ?_ _) | (with_reducible refine Below.setCell ?_ ?_ _) | (with_reducible refine chain ?_ (by assumption) ?_) | omega | (simp; done) | (simp; omega))))), (by (try simp only [World.size_alloc, World.size_drew, World.size_setCell]); omega), (by (repeat' (first | (with_reducible exact Below.refl _ _) | (with_reducible assumption) | (with_reducible refine Below.alloc ?_ ?_ _) | (with_reducible refine Below.drew ?_) | (with_reducible refine below_drewN ?_ _) | (with_reducible refine Below.setCell ?_ ?_ _) | (with_reducible refine chain ?_ (by assumption) ?_) | omega | (simp; done) | (simp; omega))))⟩)
  case rest =>
    obtain ⟨w6, rfl⟩ : ∃ w6, w6 = wc := ⟨_, rfl⟩
    clear k5_0_0 k5_0_1 k5_1_0 k5_1_1 HX5
    obtain ⟨rfl, k6_0_0, k6_0_1, k6_1_0, k6_1_1, HX6, hz6, hB6⟩ := hcut
    have bl6_0 : w.heap.size < w6.heap.size := World.block_lt_of_cell? _ _ k6_0_0
    have bl6_1 : w4.heap.size < w6.heap.size := World.block_lt_of_cell? _ _ k6_1_0
    go_wp2_with (fail)
    go_ret
    exact ⟨rfl, hB6⟩

theorem fnExactIsPhase_walk {a0 : Int} {A : Option Addr} {n cp : Nat} {xs : List C4.GateV} {w : World} (hA : C4.Rd C4.gateE w A xs) (hn : xs.length = n) (hm : n ≤ maxLen) :
    Calls Try.prog 14 #[C4.circuitV a0 A n cp] w fun ee w' => ee = .returned (.bool true) ∧ Below w.heap.size w w' := by
  by_cases hb : 1048576 < n
  · exact bigIsPhase hb hm
  cases hok : C4.okC a0 n xs
  · exact lwIsPhase (K := 0) (b1 := false) (b2 := false) (fun g w hR hg => ip_s_f (gs := xs) (fun W hW => op_s_f (hR.mono hW) hn hm hok)) (fun g w hR hg => ip_i_f (gs := xs) (fun W hW => op_i_f (hR.mono hW) hn hm hok)) hA hn (by omega)
  · obtain ⟨m, rfl, h1, h5, -, -⟩ := okC_nat hok
    obtain ⟨d2, d32, dw, dw2, dd⟩ := pow_dim h1 h5 (D := 2 ^ m) rfl
    clear dw dw2
    cases hq : opL m xs with
    | none =>
      exact lwIsPhase (K := 0) (b1 := false) (b2 := false) (fun g w hR hg => ip_s_f (gs := xs) (fun W hW => (op_s_t (hR.mono hW) hn hok (fun a ha => by obtain rfl := Option.some.inj ha; exact Nat.lt_of_lt_of_le hg hW.size)).mono fun ee w' h => ⟨h.1 hq, h.2.2⟩)) (fun g w hR hg => ip_i_f (gs := xs) (fun W hW => (op_i_t (hR.mono hW) hn hok).mono fun ee w' h => ⟨h.1 hq, h.2.2⟩)) hA hn (by omega)
    | some zs =>
      have hl : zs.length = 2 ^ m * 2 ^ m := apl_len xs _ zs hq (tab_len _ _)
      have hzs : okM ((2 ^ m : Nat) : Int) ((2 ^ m : Nat) : Int) (2 ^ m * 2 ^ m) zs = true := opL_ok h1 h5 hok hq
      rcases ph_any (badK ((2 ^ m : Nat) : Int) ((2 ^ m : Nat) : Int) ((2 ^ m : Nat) : Int) ((2 ^ m : Nat) : Int) (2 ^ m * 2 ^ m) zs (tab (2 ^ m * 2 ^ m) (unitP (2 ^ m) (2 ^ m)))) with ⟨K, k1, k2, k3⟩ | k
      · exact lwIsPhase (K := (K : Int)) (b1 := true) (b2 := true) (fun g w hR hg => (ip_s_t (gs := xs) (D := 2 ^ m) (NN := 2 ^ m * 2 ^ m) (zs := zs) (fun W hW => (op_s_t (hR.mono hW) hn hok (fun a ha => by obtain rfl := Option.some.inj ha; exact Nat.lt_of_lt_of_le hg hW.size)).mono fun ee w' h => by obtain ⟨Bo, cq, he, hr, -⟩ := h.2.1 zs hq; exact ⟨Bo, cq, he, hr, h.2.2⟩) hl rfl (Nat.le_trans (by decide) d2) d32).mono fun ee w' q => ⟨q.1 K k1 k2 k3, q.2.2⟩) (fun g w hR hg => (ip_i_t (gs := xs) (D := 2 ^ m) (NN := 2 ^ m * 2 ^ m) (zs := zs) (fun W hW => (op_i_t (hR.mono hW) hn hok).mono fun ee w' h => by obtain ⟨b, he, hk, hg⟩ := h.2.1 zs hq; exact ⟨b, he, hk, h.2.2⟩) hl rfl (Nat.le_trans (by decide) d2) d32 hzs).mono fun ee w' q => ⟨q.1 K k1 k2 k3, q.2.2⟩) hA hn (by omega)
      · exact lwIsPhase (K := 0) (b1 := false) (b2 := true) (fun g w hR hg => (ip_s_t (gs := xs) (D := 2 ^ m) (NN := 2 ^ m * 2 ^ m) (zs := zs) (fun W hW => (op_s_t (hR.mono hW) hn hok (fun a ha => by obtain rfl := Option.some.inj ha; exact Nat.lt_of_lt_of_le hg hW.size)).mono fun ee w' h => by obtain ⟨Bo, cq, he, hr, -⟩ := h.2.1 zs hq; exact ⟨Bo, cq, he, hr, h.2.2⟩) hl rfl (Nat.le_trans (by decide) d2) d32).mono fun ee w' q => ⟨q.2.1 k, q.2.2⟩) (fun g w hR hg => (ip_i_t (gs := xs) (D := 2 ^ m) (NN := 2 ^ m * 2 ^ m) (zs := zs) (fun W hW => (op_i_t (hR.mono hW) hn hok).mono fun ee w' h => by obtain ⟨b, he, hk, hg⟩ := h.2.1 zs hq; exact ⟨b, he, hk, h.2.2⟩) hl rfl (Nat.le_trans (by decide) d2) d32 hzs).mono fun ee w' q => ⟨q.2.1 k, q.2.2⟩) hA hn (by omega)

end Go.Proofs.Ytncgccpkbneagaa
