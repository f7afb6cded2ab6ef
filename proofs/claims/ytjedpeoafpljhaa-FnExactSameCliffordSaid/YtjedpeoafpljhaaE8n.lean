/- ContainsFunc over isTGate. -/
import Derived.Test.YtjedpeoafpljhaaQGc
namespace Go.Proofs.Ytjedpeoafpljhaa.C4
open Go.RowKit
set_option linter.unusedVariables false
set_option linter.unusedSimpArgs false
attribute [local irreducible] World.setCell

/-- no gate is T or its inverse -/
def noT (xs : List GateV) : Prop := ∀ (i : Nat) (g : GateV), xs[i]? = some g → isT g = false
def noU (xs : List GateV) (j : Nat) : Prop := ∀ (i : Nat) (g : GateV), i < j → xs[i]? = some g → isT g = false
theorem noU_s {xs : List GateV} {j : Nat} {x : GateV} (h : noU xs j) (hx : xs[j]? = some x) (h2 : isT x = false) : noU xs (j + 1) := by
  intro i g hi hg
  by_cases e : i = j
  · subst e; rw [hx] at hg; cases hg; exact h2
  · exact h i g (by omega) hg
theorem noT_of {xs : List GateV} {n : Nat} (hn : xs.length = n) (h : noU xs n) : noT xs := fun i g hg => h i g (by rw [← hn]; exact (List.getElem?_eq_some_iff.1 hg).1) hg
theorem noT_cnt {xs : List GateV} : noT xs ↔ xs.countP isT = 0 := by
  rw [List.countP_eq_zero]
  constructor
  · intro h a ha
    obtain ⟨i, hi⟩ := List.mem_iff_getElem?.1 ha
    rw [h i a hi]; decide
  · intro h i g hg
    have := h g (List.mem_iff_getElem?.2 ⟨i, hg⟩)
    simpa using this
set_option maxRecDepth 100000 in
set_option maxHeartbeats 4000000 in
theorem ixf_t {A : Option Addr} {n c : Nat} {xs : List GateV} {w : World} (hA : Rd gateE w A xs) (hn : xs.length = n) (hm : n ≤ maxLen) (ht : ¬ noT xs) :
    Calls Try.prog 142 #[.slice A n c, .func (.func 86) #[] #[]] w fun ee w' => ∃ i : Nat, i ≤ maxLen ∧ ee = .returned (.int .i64 (i : Int)) ∧ Below w.heap.size w w' := by
  have HA := lay hA
  have HN := lay hn
  have HT := lay ht
  clear hA hn ht
  unfold maxLen at hm
  go_enter Try.func142, Try.ntmps142
  go_wp2_with (fail)
  go_loopg [8] n (fun k s8 wr => ∃ j : Nat, j + k = n ∧ s8 = .int .i64 (j : Int) ∧ Hid (noU xs j) ∧ Below w.heap.size w wr)
  case atStart => exact ⟨0, by omega, rfl, fun i g hi => absurd hi (Nat.not_lt_zero i), by (repeat' (first | (with_reducible exact Below.refl _ _) | (with_reducible assumption) | (with_reducible refine Below.alloc ?_ ?_ _) | (with_reducible refine Below.drew ?_) | (with_reducible refine bdN ?_ _) | (with_reducible refine Below.setCell ?_ ?_ _) | (with_reducible refine chn ?_ (by assumption) ?_) | omega | (simp; done) | (simp; omega)))⟩
  case round =>
    obtain ⟨j, hj, rfl, HU, hB⟩ := hrel
    have hBs := hB.size
    cases gk with
    | zero =>
      obtain rfl : n = j := by omega
      exact absurd (noT_of HN.out HU.out) HT.out
    | succ m =>
      have hlt : j < n := by omega
      have jl : (j : Int) < (n : Int) := by omega
      obtain ⟨x, hx⟩ : ∃ x, xs[j]? = some x := ⟨_, List.getElem?_eq_getElem (by rw [HN.out]; exact hlt)⟩
      obtain ⟨g, o, rfl, hgw, hC⟩ := HA.out.atGate hx
      obtain ⟨q0, q1, q2⟩ := hC
      have HX := lay hx
      have q0' : wr.cell? ⟨g, o + j * 3, none⟩ = some (.int .i64 x.f0) := (World.cell?_of_block (hB.block _ hgw)).trans q0
      have q1' : wr.cell? ⟨g, o + j * 3 + 1, none⟩ = some (.int .i64 x.f1) := (World.cell?_of_block (hB.block _ hgw)).trans q1
      have q2' : wr.cell? ⟨g, o + j * 3 + 2, none⟩ = some (.int .i64 x.f2) := (World.cell?_of_block (hB.block _ hgw)).trans q2
      clear hx q0 q1 q2
      cases hT : isT x
      · have HH := lay hT
        clear hT
        go_wp2_with (fail)
        refine (itg (g := x) HH.out _).mono ?_
        rintro ee w2 ⟨rfl, hb2⟩
        have hB2 : Below w.heap.size w w2 := chn hB hb2 hB.size
        go_wp2_with (fail)
        go_roundg m
        case measure => omega
        case rel => exact ⟨j + 1, by omega, by go_num, noU_s HU.out HX.out HH.out, hB2⟩
      · have HH := lay hT
        clear hT
        go_wp2_with (fail)
        refine (itg (g := x) HH.out _).mono ?_
        rintro ee w2 ⟨rfl, hb2⟩
        have hB2 : Below w.heap.size w w2 := chn hB hb2 hB.size
        go_wp2_with (fail)
        go_ret
        exact ⟨j, by unfold maxLen; omega, rfl, hB2⟩

set_option maxRecDepth 100000 in
set_option maxHeartbeats 4000000 in
theorem ixf_f {A : Option Addr} {n c : Nat} {xs : List GateV} {w : World} (hA : Rd gateE w A xs) (hn : xs.length = n) (hm : n ≤ maxLen) (ht : noT xs) :
    Calls Try.prog 142 #[.slice A n c, .func (.func 86) #[] #[]] w fun ee w' => ee = .returned (.int .i64 (-1)) ∧ Below w.heap.size w w' := by
  have HA := lay hA
  have HN := lay hn
  have HT := lay ht
  clear hA hn ht
  unfold maxLen at hm
  go_enter Try.func142, Try.ntmps142
  go_wp2_with (fail)
  go_loopg [8] n (fun k s8 wr => ∃ j : Nat, j + k = n ∧ s8 = .int .i64 (j : Int) ∧ Hid (noU xs j) ∧ Below w.heap.size w wr)
  case atStart => exact ⟨0, by omega, rfl, fun i g hi => absurd hi (Nat.not_lt_zero i), by (repeat' (first | (with_reducible exact Below.refl _ _) | (with_reducible assumption) | (with_reducible refine Below.alloc ?_ ?_ _) | (with_reducible refine Below.drew ?_) | (with_reducible refine bdN ?_ _) | (with_reducible refine Below.setCell ?_ ?_ _) | (with_reducible refine chn ?_ (by assumption) ?_) | omega | (simp; done) | (simp; omega)))⟩
  case round =>
    obtain ⟨j, hj, rfl, HU, hB⟩ := hrel
    have hBs := hB.size
    cases gk with
    | zero =>
      obtain rfl : n = j := by omega
      go_wp2_with (fail)
      go_ret
      exact ⟨rfl, hB⟩
    | succ m =>
      have hlt : j < n := by omega
      have jl : (j : Int) < (n : Int) := by omega
      obtain ⟨x, hx⟩ : ∃ x, xs[j]? = some x := ⟨_, List.getElem?_eq_getElem (by rw [HN.out]; exact hlt)⟩
      obtain ⟨g, o, rfl, hgw, hC⟩ := HA.out.atGate hx
      obtain ⟨q0, q1, q2⟩ := hC
      have HX := lay hx
      have q0' : wr.cell? ⟨g, o + j * 3, none⟩ = some (.int .i64 x.f0) := (World.cell?_of_block (hB.block _ hgw)).trans q0
      have q1' : wr.cell? ⟨g, o + j * 3 + 1, none⟩ = some (.int .i64 x.f1) := (World.cell?_of_block (hB.block _ hgw)).trans q1
      have q2' : wr.cell? ⟨g, o + j * 3 + 2, none⟩ = some (.int .i64 x.f2) := (World.cell?_of_block (hB.block _ hgw)).trans q2
      clear hx q0 q1 q2
      cases hT : isT x
      · have HH := lay hT
        clear hT
        go_wp2_with (fail)
        refine (itg (g := x) HH.out _).mono ?_
        rintro ee w2 ⟨rfl, hb2⟩
        have hB2 : Below w.heap.size w w2 := chn hB hb2 hB.size
        go_wp2_with (fail)
        go_roundg m
        case measure => omega
        case rel => exact ⟨j + 1, by omega, by go_num, noU_s HU.out HX.out HH.out, hB2⟩
      · have HH := lay hT
        clear hT
        exact absurd (HT.out j x HX.out) (by rw [HH.out]; decide)

set_option maxRecDepth 100000 in
set_option maxHeartbeats 4000000 in
theorem ctf_t {A : Option Addr} {n c : Nat} {xs : List GateV} {w : World} (hA : Rd gateE w A xs) (hn : xs.length = n) (hm : n ≤ maxLen) (ht : ¬ noT xs) :
    Calls Try.prog 85 #[.slice A n c, .func (.func 86) #[] #[]] w fun ee w' => ee = .returned (.bool true) ∧ Below w.heap.size w w' := by
  have HA := lay hA
  have HT := lay ht
  clear hA ht
  go_enter Try.func85, Try.ntmps85
  go_wp2_with (fail)
  refine (ixf_t (xs := xs) HA.out hn hm HT.out).mono ?_
  rintro ee w1 ⟨i, hi, rfl, hb1⟩
  have i0 : (0 : Int) ≤ (i : Int) := by omega
  go_wp2_with (fail)
  go_ret
  refine ⟨rfl, ?_⟩
  (repeat' (first | (with_reducible exact Below.refl _ _) | (with_reducible assumption) | (with_reducible refine Below.alloc ?_ ?_ _) | (with_reducible refine Below.drew ?_) | (with_reducible refine bdN ?_ _) | (with_reducible refine Below.setCell ?_ ?_ _) | (with_reducible refine chn ?_ (by assumption) ?_) | omega | (simp; done) | (simp; omega)))

set_option maxRecDepth 100000 in
set_option maxHeartbeats 4000000 in
theorem ctf_f {A : Option Addr} {n c : Nat} {xs : List GateV} {w : World} (hA : Rd gateE w A xs) (hn : xs.length = n) (hm : n ≤ maxLen) (ht : noT xs) :
    Calls Try.prog 85 #[.slice A n c, .func (.func 86) #[] #[]] w fun ee w' => ee = .returned (.bool false) ∧ Below w.heap.size w w' := by
  have HA := lay hA
  have HT := lay ht
  clear hA ht
  go_enter Try.func85, Try.ntmps85
  go_wp2_with (fail)
  refine (ixf_f (xs := xs) HA.out hn hm HT.out).mono ?_
  rintro ee w1 ⟨rfl, hb1⟩
  go_wp2_with (fail)
  go_ret
  refine ⟨rfl, ?_⟩
  (repeat' (first | (with_reducible exact Below.refl _ _) | (with_reducible assumption) | (with_reducible refine Below.alloc ?_ ?_ _) | (with_reducible refine Below.drew ?_) | (with_reducible refine bdN ?_ _) | (with_reducible refine Below.setCell ?_ ?_ _) | (with_reducible refine chn ?_ (by assumption) ?_) | omega | (simp; done) | (simp; omega)))

end Go.Proofs.Ytjedpeoafpljhaa.C4
