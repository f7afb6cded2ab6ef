/- Counts of gates. -/
import Derived.Test.YtjedpeoafpljhaaQGv
namespace Go.Proofs.Ytjedpeoafpljhaa.C4
open Go.RowKit
set_option linter.unusedVariables false
set_option linter.unusedSimpArgs false
attribute [local irreducible] World.setCell

def pK (lo hi : Int) (g : GateV) : Bool := inB g.f0 lo hi
def isT (g : GateV) : Bool := inB g.f0 7 8
def isTwo (g : GateV) : Bool := inB g.f0 9 11
def isW (g : GateV) : Bool := inB g.f0 12 12
def isCl (g : GateV) : Bool := !isT g && (g.f0 != 12)
theorem cnt_succ {p : GateV → Bool} {xs : List GateV} {j : Nat} {x : GateV} (h : xs[j]? = some x) : (xs.take (j + 1)).countP p = (xs.take j).countP p + (if p x then 1 else 0) := by
  have hj : j < xs.length := (List.getElem?_eq_some_iff.1 h).1
  have hv := (List.getElem?_eq_some_iff.1 h).2
  rw [List.take_succ_eq_append_getElem hj, hv, List.countP_append, List.countP_cons, List.countP_nil, Nat.zero_add]
theorem cnt_le {p : GateV → Bool} {xs : List GateV} {j : Nat} : (xs.take j).countP p ≤ j := Nat.le_trans List.countP_le_length (by rw [List.length_take]; omega)
theorem cl_iff {xs : List GateV} : (xs.countP isCl == xs.length) = (xs.countP isT + xs.countP isW == 0) := by
  rw [Bool.eq_iff_iff, beq_iff_eq, beq_iff_eq, List.countP_eq_length]
  constructor
  · intro h
    have h1 : xs.countP isT = 0 := List.countP_eq_zero.2 (fun a ha => by have := h a ha; unfold isCl at this; cases ht : isT a <;> simp [ht] at this ⊢)
    have h2 : xs.countP isW = 0 := List.countP_eq_zero.2 (fun a ha => by
      have := h a ha; unfold isCl at this
      intro hw
      have hw' := inB_iff.1 hw
      have : a.f0 ≠ 12 := by simpa using (Bool.and_eq_true_iff.1 this).2
      omega)
    omega
  · intro h a ha
    have h1 : xs.countP isT = 0 := by omega
    have h2 : xs.countP isW = 0 := by omega
    have t1 := List.countP_eq_zero.1 h1 a ha
    have t2 := List.countP_eq_zero.1 h2 a ha
    unfold isCl
    have : a.f0 ≠ 12 := fun e => t2 (by unfold isW; rw [e]; decide)
    simp [t1, this]
set_option maxRecDepth 100000 in
set_option maxHeartbeats 2000000 in
theorem itg {g : GateV} {t : Bool} (h : isT g = t) (w : World) :
    Calls Try.prog 86 #[g.v] w fun ee w' => ee = .returned (.bool t) ∧ Below w.heap.size w w' := by
  have H := lay h
  clear h
  cases c7 : (g.f0 == 7)
  · cases c8 : (g.f0 == 8)
    · have C7 : Hid (¬ g.f0 = 7) := by show ¬ _; simpa using c7
      have C8 : Hid (¬ g.f0 = 8) := by show ¬ _; simpa using c8
      go_enter Try.func86, Try.ntmps86
      go_wp2_with (fail)
      go_ret
      refine ⟨ret_bool (by rw [← H.out]; unfold isT; exact (inB_f (fun k => by have := C7.out; have := C8.out; omega)).symm), ?_⟩
      (repeat' (first | (with_reducible exact Below.refl _ _) | (with_reducible assumption) | (with_reducible refine Below.alloc ?_ ?_ _) | (with_reducible refine Below.drew ?_) | (with_reducible refine bdN ?_ _) | (with_reducible refine Below.setCell ?_ ?_ _) | (with_reducible refine chn ?_ (by assumption) ?_) | omega | (simp; done) | (simp; omega)))
    · have C8 : Hid (g.f0 = 8) := by show _ = _; simpa using c8
      go_enter Try.func86, Try.ntmps86
      go_wp2_with (fail)
      go_ret
      refine ⟨ret_bool (by rw [← H.out]; unfold isT; exact (inB_t (by rw [C8.out]; decide) (by rw [C8.out]; decide)).symm), ?_⟩
      (repeat' (first | (with_reducible exact Below.refl _ _) | (with_reducible assumption) | (with_reducible refine Below.alloc ?_ ?_ _) | (with_reducible refine Below.drew ?_) | (with_reducible refine bdN ?_ _) | (with_reducible refine Below.setCell ?_ ?_ _) | (with_reducible refine chn ?_ (by assumption) ?_) | omega | (simp; done) | (simp; omega)))
  · have C7 : Hid (g.f0 = 7) := by show _ = _; simpa using c7
    go_enter Try.func86, Try.ntmps86
    go_wp2_with (fail)
    go_ret
    refine ⟨ret_bool (by rw [← H.out]; unfold isT; exact (inB_t (by rw [C7.out]; decide) (by rw [C7.out]; decide)).symm), ?_⟩
    (repeat' (first | (with_reducible exact Below.refl _ _) | (with_reducible assumption) | (with_reducible refine Below.alloc ?_ ?_ _) | (with_reducible refine Below.drew ?_) | (with_reducible refine bdN ?_ _) | (with_reducible refine Below.setCell ?_ ?_ _) | (with_reducible refine chn ?_ (by assumption) ?_) | omega | (simp; done) | (simp; omega)))

theorem qa_two {g : GateV} : (qa g == 2) = isTwo g := by
  unfold isTwo
  rw [Bool.eq_iff_iff, beq_iff_eq, inB_iff]
  unfold qa
  split
  · rename_i h; exact ⟨fun _ => h, fun _ => rfl⟩
  · rename_i h; split <;> exact ⟨fun k => by omega, fun k => absurd k h⟩
set_option maxRecDepth 100000 in
set_option maxHeartbeats 4000000 in
theorem lcnt {a0 : Int} {A1 : Option Addr} {n1 c1 : Nat} {xs : List GateV} {w : World} {lo hi : Int} (hA : Rd gateE w A1 xs) (hn : xs.length = n1) (hm : n1 ≤ maxLen) :
    Calls Try.prog 182 #[circuitV a0 A1 n1 c1, .int .i64 lo, .int .i64 hi] w fun ee w' => ee = .returned (.int .i64 (xs.countP (pK lo hi) : Nat)) ∧ Below w.heap.size w w' := by
  have hu : n1 ≤ 9223372036854775807 := by unfold maxLen at hm; omega
  have HA := lay hA
  have HN := lay hn
  clear hA hn
  go_enter Try.func182, Try.ntmps182
  go_wp2_with (fail)
  go_loopg [7, 13] n1 (fun k s0 s1 wr => ∃ (j : Nat) (K : Nat), j + k = n1 ∧ s0 = .int .i64 (K : Int) ∧ s1 = .int .i64 (j : Int) ∧ Hid (K = (xs.take j).countP (pK lo hi)) ∧ K ≤ j ∧ Hid (Bb wr (w.heap.size) 58 #[.int .i64 a0, .slice A1 n1 c1]) ∧ Below w.heap.size w wr)
  case atStart => exact ⟨0, 0, by omega, rfl, rfl, rfl, by omega, (by show Bb _ _ _ _; (repeat' (first | (with_reducible assumption) | (refine Bb.new (by first | (with_reducible rfl) | (simp; done))) | (with_reducible refine Bb.alloc ?_ _) | (with_reducible refine Bb.drew ?_) | (with_reducible refine Bb.drewN ?_ _) | (with_reducible refine Bb.mono ?_ (by assumption)) | (with_reducible refine Bb.far ?_ (by (try simp only [World.size_alloc, World.size_drew]); omega)) | (with_reducible refine Bb.set ?_ rfl) | (with_reducible refine Bb.grown ?_ (by assumption) (by assumption))))), by (repeat' (first | (with_reducible exact Below.refl _ _) | (with_reducible assumption) | (with_reducible refine Below.alloc ?_ ?_ _) | (with_reducible refine Below.drew ?_) | (with_reducible refine bdN ?_ _) | (with_reducible refine Below.setCell ?_ ?_ _) | (with_reducible refine chn ?_ (by assumption) ?_) | omega | (simp; done) | (simp; omega)))⟩
  case round =>
    obtain ⟨j, K, hj, rfl, rfl, HK, hK, Xa, hB⟩ := hrel
    have hBz := hB.size
    have ca0 := Xa.out.c 0 rfl
    have ca1 := Xa.out.c 1 rfl
    have la := Xa.out.lt
    cases gk with
    | zero =>
      obtain rfl : j = n1 := by omega
      have HH : Hid (xs.countP (pK lo hi) = K) := by have h := HK.out; rw [List.take_of_length_le (by rw [HN.out]; exact Nat.le_refl _)] at h; exact h.symm
      go_wp2_with (fail)
      go_ret
      exact ⟨by rw [HH.out]; rfl, hB⟩
    | succ m =>
      have hlt : j < n1 := by omega
      obtain ⟨x, hx⟩ : ∃ x, xs[j]? = some x := ⟨_, List.getElem?_eq_getElem (by rw [HN.out]; exact hlt)⟩
      obtain ⟨g, o, rfl, hgw, hC⟩ := HA.out.atGate hx
      have hC' : wr.cell? ⟨g, o + j * 3, none⟩ = some (.int .i64 x.f0) ∧ wr.cell? ⟨g, o + j * 3 + 1, none⟩ = some (.int .i64 x.f1) ∧ wr.cell? ⟨g, o + j * 3 + 2, none⟩ = some (.int .i64 x.f2) := ⟨(World.cell?_of_block (hB.block g hgw)).trans hC.1, (World.cell?_of_block (hB.block g hgw)).trans hC.2.1, (World.cell?_of_block (hB.block g hgw)).trans hC.2.2⟩
      obtain ⟨q0, q1, q2⟩ := hC'
      clear hC
      have hcs := cnt_succ (p := pK lo hi) hx
      rw [← HK.out] at hcs
      clear hx
      cases hp : (pK lo hi) x
      · have HP := lay (show inB x.f0 lo hi = _ from hp)
        rw [hp] at hcs
        have HC := lay hcs
        clear hcs hp
        go_wp2_with ((go_at_call 128; ((with_reducible refine (lin HP.out _).mono ?_); rintro ee w4 ⟨rfl, rfl⟩)))
        have R : Bb _ _ _ _ := Xa.out
        go_roundg m
        case measure => omega
        case rel =>
          refine ⟨j + 1, K, by omega, rfl, by go_num, (by show _ = _; rw [HC.out]; rfl), by omega, (by show Bb _ _ _ _; (repeat' (first | (with_reducible assumption) | (refine Bb.new (by first | (with_reducible rfl) | (simp; done))) | (with_reducible refine Bb.alloc ?_ _) | (with_reducible refine Bb.drew ?_) | (with_reducible refine Bb.drewN ?_ _) | (with_reducible refine Bb.mono ?_ (by assumption)) | (with_reducible refine Bb.far ?_ (by (try simp only [World.size_alloc, World.size_drew]); omega)) | (with_reducible refine Bb.set ?_ rfl) | (with_reducible refine Bb.grown ?_ (by assumption) (by assumption))))), ?_⟩
          (repeat' (first | (with_reducible exact Below.refl _ _) | (with_reducible assumption) | (with_reducible refine Below.alloc ?_ ?_ _) | (with_reducible refine Below.drew ?_) | (with_reducible refine bdN ?_ _) | (with_reducible refine Below.setCell ?_ ?_ _) | (with_reducible refine chn ?_ (by assumption) ?_) | omega | (simp; done) | (simp; omega)))
      · have HP := lay (show inB x.f0 lo hi = _ from hp)
        rw [hp] at hcs
        have HC := lay hcs
        clear hcs hp
        go_wp2_with ((go_at_call 128; ((with_reducible refine (lin HP.out _).mono ?_); rintro ee w4 ⟨rfl, rfl⟩)))
        have R : Bb _ _ _ _ := Xa.out
        go_roundg m
        case measure => omega
        case rel =>
          refine ⟨j + 1, K + 1, by omega, by go_num, by go_num, (by show _ = _; rw [HC.out]; rfl), by omega, (by show Bb _ _ _ _; (repeat' (first | (with_reducible assumption) | (refine Bb.new (by first | (with_reducible rfl) | (simp; done))) | (with_reducible refine Bb.alloc ?_ _) | (with_reducible refine Bb.drew ?_) | (with_reducible refine Bb.drewN ?_ _) | (with_reducible refine Bb.mono ?_ (by assumption)) | (with_reducible refine Bb.far ?_ (by (try simp only [World.size_alloc, World.size_drew]); omega)) | (with_reducible refine Bb.set ?_ rfl) | (with_reducible refine Bb.grown ?_ (by assumption) (by assumption))))), ?_⟩
          (repeat' (first | (with_reducible exact Below.refl _ _) | (with_reducible assumption) | (with_reducible refine Below.alloc ?_ ?_ _) | (with_reducible refine Below.drew ?_) | (with_reducible refine bdN ?_ _) | (with_reducible refine Below.setCell ?_ ?_ _) | (with_reducible refine chn ?_ (by assumption) ?_) | omega | (simp; done) | (simp; omega)))

set_option maxRecDepth 100000 in
set_option maxHeartbeats 2000000 in
theorem sCountT_f {a0 : Int} {A1 : Option Addr} {n1 c1 : Nat} {xs : List GateV} {w : World} (hA : Rd gateE w A1 xs) (hn : xs.length = n1) (hm : n1 ≤ maxLen) (hok : okC a0 n1 xs = false) :
    Calls Try.prog 138 #[circuitV a0 A1 n1 c1] w fun ee w' => ee = .returned (.tuple #[.int .i64 0, .bool false]) ∧ Below w.heap.size w w' := by
  have HA := lay hA
  have HN := lay hn
  have HO := lay hok
  clear hA hn hok
  go_enter Try.func138, Try.ntmps138
  go_wp2_with (fail)
  refine (vcs (xs := xs) HO.out ?_ HN.out hm).mono ?_
  · exact HA.out.mono (by (repeat' (first | (with_reducible exact Below.refl _ _) | (with_reducible assumption) | (with_reducible refine Below.alloc ?_ ?_ _) | (with_reducible refine Below.drew ?_) | (with_reducible refine bdN ?_ _) | (with_reducible refine Below.setCell ?_ ?_ _) | (with_reducible refine chn ?_ (by assumption) ?_) | omega | (simp; done) | (simp; omega))))
  rintro ee w1 ⟨rfl, hb1⟩
  go_wp2_with (fail)
  go_ret2
  refine ⟨rfl, ?_⟩
  (repeat' (first | (with_reducible exact Below.refl _ _) | (with_reducible assumption) | (with_reducible refine Below.alloc ?_ ?_ _) | (with_reducible refine Below.drew ?_) | (with_reducible refine bdN ?_ _) | (with_reducible refine Below.setCell ?_ ?_ _) | (with_reducible refine chn ?_ (by assumption) ?_) | omega | (simp; done) | (simp; omega)))

set_option maxRecDepth 100000 in
set_option maxHeartbeats 2000000 in
theorem sCountT_t {a0 : Int} {A1 : Option Addr} {n1 c1 : Nat} {xs : List GateV} {w : World} (hA : Rd gateE w A1 xs) (hn : xs.length = n1) (hm : n1 ≤ maxLen) (hok : okC a0 n1 xs = true) :
    Calls Try.prog 138 #[circuitV a0 A1 n1 c1] w fun ee w' => ee = .returned (.tuple #[.int .i64 (xs.countP isT : Nat), .bool true]) ∧ Below w.heap.size w w' := by
  have HA := lay hA
  have HN := lay hn
  have HO := lay hok
  clear hA hn hok
  go_enter Try.func138, Try.ntmps138
  go_wp2_with (fail)
  refine (vcs (xs := xs) HO.out ?_ HN.out hm).mono ?_
  · exact HA.out.mono (by (repeat' (first | (with_reducible exact Below.refl _ _) | (with_reducible assumption) | (with_reducible refine Below.alloc ?_ ?_ _) | (with_reducible refine Below.drew ?_) | (with_reducible refine bdN ?_ _) | (with_reducible refine Below.setCell ?_ ?_ _) | (with_reducible refine chn ?_ (by assumption) ?_) | omega | (simp; done) | (simp; omega))))
  rintro ee w1 ⟨rfl, hb1⟩
  have hz1 := hb1.size
  simp only [World.size_alloc] at hz1
  have k1_0_0 : w1.cell? ⟨w.heap.size, 0, none⟩ = some (.int .i64 a0) := (hb1.cell (p := ⟨w.heap.size, 0, none⟩) (by show w.heap.size < _; (try simp only [World.size_alloc]); omega)).trans (by first | rfl | (simp; done) | (simp [*]; done))
  have k1_0_1 : w1.cell? ⟨w.heap.size, 1, none⟩ = some (.slice A1 n1 c1) := (hb1.cell (p := ⟨w.heap.size, 1, none⟩) (by show w.heap.size < _; (try simp only [World.size_alloc]); omega)).trans (by first | rfl | (simp; done) | (simp [*]; done))
  have r1_0 : ∀ o, w1.frozen? ⟨w.heap.size, o, none⟩ = false := fun o => (hb1.frozen (p := ⟨w.heap.size, o, none⟩) (by show w.heap.size < _; (try simp only [World.size_alloc]); omega)).trans (by first | rfl | (simp; done) | (simp [*]; done))
  have b1_0 : w.heap.size < w1.heap.size := World.block_lt_of_cell? _ _ k1_0_0
  have hW : Below w.heap.size w w1 := by (repeat' (first | (with_reducible exact Below.refl _ _) | (with_reducible assumption) | (with_reducible refine Below.alloc ?_ ?_ _) | (with_reducible refine Below.drew ?_) | (with_reducible refine bdN ?_ _) | (with_reducible refine Below.setCell ?_ ?_ _) | (with_reducible refine chn ?_ (by assumption) ?_) | omega | (simp; done) | (simp; omega)))
  clear hb1
  go_wp2_with (fail)
  refine (lcnt (xs := xs) ?_ HN.out hm).mono ?_
  · exact HA.out.mono (by (repeat' (first | (with_reducible exact Below.refl _ _) | (with_reducible assumption) | (with_reducible refine Below.alloc ?_ ?_ _) | (with_reducible refine Below.drew ?_) | (with_reducible refine bdN ?_ _) | (with_reducible refine Below.setCell ?_ ?_ _) | (with_reducible refine chn ?_ (by assumption) ?_) | omega | (simp; done) | (simp; omega))))
  rintro ee w2 ⟨rfl, hb2⟩
  have hz2 := hW.size
  go_wp2_with (fail)
  go_ret2
  refine ⟨rfl, ?_⟩
  (repeat' (first | (with_reducible exact Below.refl _ _) | (with_reducible assumption) | (with_reducible refine Below.alloc ?_ ?_ _) | (with_reducible refine Below.drew ?_) | (with_reducible refine bdN ?_ _) | (with_reducible refine Below.setCell ?_ ?_ _) | (with_reducible refine chn ?_ (by assumption) ?_) | omega | (simp; done) | (simp; omega)))

end Go.Proofs.Ytjedpeoafpljhaa.C4
