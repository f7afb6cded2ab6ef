/- Validity of circuits. -/
import Derived.Test.YtjedpeoafpljhaaQGa
namespace Go.Proofs.Ytjedpeoafpljhaa.C4
open Go.RowKit
set_option linter.unusedVariables false
set_option linter.unusedSimpArgs false
attribute [local irreducible] World.setCell

/-- a valid circuit of n gates -/
def okC (q : Int) (n : Nat) (xs : List GateV) : Bool := inB q 1 5 && decide (n ≤ 400) && xs.all (gB q)
theorem okC_q {q : Int} {n : Nat} {xs : List GateV} (h : inB q 1 5 = false) : okC q n xs = false := by unfold okC; rw [h]; rfl
theorem okC_n {q : Int} {n : Nat} {xs : List GateV} (h : 400 < n) : okC q n xs = false := by
  unfold okC; rw [decide_eq_false (by omega)]; simp
theorem okC_l {q : Int} {n : Nat} {xs : List GateV} (h : inB q 1 5 = true) (h2 : n ≤ 400) : okC q n xs = xs.all (gB q) := by
  unfold okC; rw [h, decide_eq_true h2]; rfl
theorem okC_iff {q : Int} {n : Nat} {xs : List GateV} : okC q n xs = true ↔ 1 ≤ q ∧ q ≤ 5 ∧ n ≤ 400 ∧ ∀ (i : Nat) (g : GateV), xs[i]? = some g → gB q g = true := by
  unfold okC
  simp only [Bool.and_eq_true, inB_iff, decide_eq_true_eq, List.all_eq_true]
  constructor
  · rintro ⟨⟨⟨h1, h2⟩, h3⟩, h4⟩
    exact ⟨h1, h2, h3, fun i g hg => h4 g (List.mem_of_getElem? hg)⟩
  · rintro ⟨h1, h2, h3, h4⟩
    refine ⟨⟨⟨h1, h2⟩, h3⟩, fun g hg => ?_⟩
    obtain ⟨i, hi, he⟩ := List.getElem_of_mem hg
    exact h4 i g (by rw [List.getElem?_eq_getElem hi, he])
theorem all_at {q : Int} {xs : List GateV} {j : Nat} {x : GateV} (hx : xs[j]? = some x) (h : gB q x = false) : xs.all (gB q) = false := by
  rw [List.all_eq_false]
  exact ⟨x, List.mem_of_getElem? hx, by rw [h]; decide⟩
theorem all_of {q : Int} {xs : List GateV} (h : ∀ (i : Nat) (g : GateV), xs[i]? = some g → gB q g = true) : xs.all (gB q) = true := by
  rw [List.all_eq_true]
  intro g hg
  obtain ⟨i, hi, he⟩ := List.getElem_of_mem hg
  exact h i g (by rw [List.getElem?_eq_getElem hi, he])
set_option maxRecDepth 100000 in
set_option maxHeartbeats 4000000 in
theorem vcs {a0 : Int} {A1 : Option Addr} {n1 c1 : Nat} {xs : List GateV} {t : Bool} {w : World} (h : okC a0 n1 xs = t) (hA : Rd gateE w A1 xs) (hn : xs.length = n1) (hm : n1 ≤ maxLen) :
    Calls Try.prog 181 #[circuitV a0 A1 n1 c1] w fun ee w' => ee = .returned (.bool t) ∧ Below w.heap.size w w' := by
  have hu : n1 ≤ 9223372036854775807 := by unfold maxLen at hm; omega
  cases hq : inB a0 1 5
  · have HT : Hid (false = t) := by rw [← h, okC_q hq]; rfl
    have HQ := lay hq
    clear h hA hn hq
    go_enter Try.func181, Try.ntmps181
    go_wp2_with ((go_at_call 128; ((with_reducible refine (lin HQ.out _).mono ?_); rintro ee w1 ⟨rfl, rfl⟩)))
    go_ret
    refine ⟨ret_bool HT.out, ?_⟩
    (repeat' (first | (with_reducible exact Below.refl _ _) | (with_reducible assumption) | (with_reducible refine Below.alloc ?_ ?_ _) | (with_reducible refine Below.drew ?_) | (with_reducible refine bdN ?_ _) | (with_reducible refine Below.setCell ?_ ?_ _) | (with_reducible refine chn ?_ (by assumption) ?_) | omega | (simp; done) | (simp; omega)))
  by_cases h4 : 400 < n1
  · have HT : Hid (false = t) := by rw [← h, okC_n h4]; rfl
    have HQ := lay hq
    have h5 : (400 : Int) < (n1 : Int) := by omega
    clear h hA hn hq
    go_enter Try.func181, Try.ntmps181
    go_wp2_with ((go_at_call 128; ((with_reducible refine (lin HQ.out _).mono ?_); rintro ee w1 ⟨rfl, rfl⟩)))
    go_ret
    refine ⟨ret_bool HT.out, ?_⟩
    (repeat' (first | (with_reducible exact Below.refl _ _) | (with_reducible assumption) | (with_reducible refine Below.alloc ?_ ?_ _) | (with_reducible refine Below.drew ?_) | (with_reducible refine bdN ?_ _) | (with_reducible refine Below.setCell ?_ ?_ _) | (with_reducible refine chn ?_ (by assumption) ?_) | omega | (simp; done) | (simp; omega)))
  rw [okC_l hq (by omega)] at h
  obtain ⟨q1, q5⟩ := inB_iff.1 hq
  have hb : n1 ≤ 400 := by omega
  have h6 : ¬ ((400 : Int) < (n1 : Int)) := by omega
  have HT := lay h
  have HQ := lay hq
  have HA := lay hA
  have HN := lay hn
  clear h hA hn hq
  go_enter Try.func181, Try.ntmps181
  go_wp2_with (first | (go_at_call 128; ((with_reducible refine (lin HQ.out _).mono ?_); rintro ee w1 ⟨rfl, rfl⟩)) | fail)
  go_loopg [18] n1 (fun k s1 wr => ∃ j : Nat, j + k = n1 ∧ s1 = .int .i64 (j : Int) ∧ Hid (∀ (i : Nat) (g : GateV), i < j → xs[i]? = some g → gB a0 g = true) ∧ Hid (Bb wr (w.heap.size) 58 #[.int .i64 a0, .slice A1 n1 c1]) ∧ Below w.heap.size w wr)
  case atStart => exact ⟨0, by omega, rfl, fun i g hi => absurd hi (Nat.not_lt_zero i), (by show Bb _ _ _ _; (repeat' (first | (with_reducible assumption) | (refine Bb.new (by first | (with_reducible rfl) | (simp; done))) | (with_reducible refine Bb.alloc ?_ _) | (with_reducible refine Bb.drew ?_) | (with_reducible refine Bb.drewN ?_ _) | (with_reducible refine Bb.mono ?_ (by assumption)) | (with_reducible refine Bb.far ?_ (by (try simp only [World.size_alloc, World.size_drew]); omega)) | (with_reducible refine Bb.set ?_ rfl) | (with_reducible refine Bb.grown ?_ (by assumption) (by assumption))))), by (repeat' (first | (with_reducible exact Below.refl _ _) | (with_reducible assumption) | (with_reducible refine Below.alloc ?_ ?_ _) | (with_reducible refine Below.drew ?_) | (with_reducible refine bdN ?_ _) | (with_reducible refine Below.setCell ?_ ?_ _) | (with_reducible refine chn ?_ (by assumption) ?_) | omega | (simp; done) | (simp; omega)))⟩
  case round =>
    obtain ⟨j, hj, rfl, HJ, Xa, hB⟩ := hrel
    have hBz := hB.size
    have ca0 := Xa.out.c 0 rfl
    have ca1 := Xa.out.c 1 rfl
    have la := Xa.out.lt
    cases gk with
    | zero =>
      obtain rfl : j = n1 := by omega
      have HH : Hid (true = t) := by rw [← HT.out]; exact (all_of (fun i g hg => HJ.out i g (by have := (List.getElem?_eq_some_iff.1 hg).1; rw [HN.out] at this; exact this) hg)).symm
      go_wp2_with (fail)
      go_ret
      exact ⟨ret_bool HH.out, hB⟩
    | succ m =>
      have hlt : j < n1 := by omega
      obtain ⟨x, hx⟩ : ∃ x, xs[j]? = some x := ⟨_, List.getElem?_eq_getElem (by rw [HN.out]; exact hlt)⟩
      obtain ⟨g, o, rfl, hgw, hC⟩ := HA.out.atGate hx
      have hC' : wr.cell? ⟨g, o + j * 3, none⟩ = some (.int .i64 x.f0) ∧ wr.cell? ⟨g, o + j * 3 + 1, none⟩ = some (.int .i64 x.f1) ∧ wr.cell? ⟨g, o + j * 3 + 2, none⟩ = some (.int .i64 x.f2) := ⟨(World.cell?_of_block (hB.block g hgw)).trans hC.1, (World.cell?_of_block (hB.block g hgw)).trans hC.2.1, (World.cell?_of_block (hB.block g hgw)).trans hC.2.2⟩
      obtain ⟨q0, q1', q2⟩ := hC'
      clear hC
      have HX := lay hx
      clear hx
      cases hk : gB a0 x
      · have HK := lay hk
        have HH : Hid (false = t) := by rw [← HT.out]; exact (all_at HX.out (by exact HK.out)).symm
        clear hk
        go_wp2_with ((go_at_call 198; ((with_reducible refine (lg HK.out q1 q5 _).mono ?_); rintro ee w4 ⟨rfl, hb4⟩)))
        go_ret
        refine ⟨ret_bool HH.out, ?_⟩
        (repeat' (first | (with_reducible exact Below.refl _ _) | (with_reducible assumption) | (with_reducible refine Below.alloc ?_ ?_ _) | (with_reducible refine Below.drew ?_) | (with_reducible refine bdN ?_ _) | (with_reducible refine Below.setCell ?_ ?_ _) | (with_reducible refine chn ?_ (by assumption) ?_) | omega | (simp; done) | (simp; omega)))
      · have HK := lay hk
        clear hk
        go_wp2_with ((go_at_call 198; ((with_reducible refine (lg HK.out q1 q5 _).mono ?_); rintro ee w4 ⟨rfl, hb4⟩)))
        have hW : Below wr.heap.size wr w4 := by (repeat' (first | (with_reducible exact Below.refl _ _) | (with_reducible assumption) | (with_reducible refine Below.alloc ?_ ?_ _) | (with_reducible refine Below.drew ?_) | (with_reducible refine bdN ?_ _) | (with_reducible refine Below.setCell ?_ ?_ _) | (with_reducible refine chn ?_ (by assumption) ?_) | omega | (simp; done) | (simp; omega)))
        go_roundg m
        case measure => omega
        case rel =>
          refine ⟨j + 1, by omega, by go_num, fun i g hi hg => ?_, Xa.out.mono hW, ?_⟩
          · by_cases e : i = j
            · subst e; rw [HX.out] at hg; cases hg; exact HK.out
            · exact HJ.out i g (by omega) hg
          · exact chn hB hW hB.size

set_option maxRecDepth 100000 in
set_option maxHeartbeats 4000000 in
theorem vci {a0 : Int} {A1 : Option Addr} {n1 c1 : Nat} {xs : List GateV} {t : Bool} {w : World} (h : okC a0 n1 xs = t) (hA : Rd gateE w A1 xs) (hn : xs.length = n1) (hm : n1 ≤ maxLen) :
    Calls Try.prog 84 #[circuitV a0 A1 n1 c1] w fun ee w' => ee = .returned (.bool t) ∧ Below w.heap.size w w' := by
  have hu : n1 ≤ 9223372036854775807 := by unfold maxLen at hm; omega
  cases hq : inB a0 1 5
  · have HT : Hid (false = t) := by rw [← h, okC_q hq]; rfl
    have HQ := lay hq
    clear h hA hn hq
    go_enter Try.func84, Try.ntmps84
    go_wp2_with ((go_at_call 131; ((with_reducible refine (iqc HQ.out _).mono ?_); rintro ee w1 ⟨rfl, rfl⟩)))
    go_ret
    refine ⟨ret_bool HT.out, ?_⟩
    (repeat' (first | (with_reducible exact Below.refl _ _) | (with_reducible assumption) | (with_reducible refine Below.alloc ?_ ?_ _) | (with_reducible refine Below.drew ?_) | (with_reducible refine bdN ?_ _) | (with_reducible refine Below.setCell ?_ ?_ _) | (with_reducible refine chn ?_ (by assumption) ?_) | omega | (simp; done) | (simp; omega)))
  by_cases h4 : 400 < n1
  · have HT : Hid (false = t) := by rw [← h, okC_n h4]; rfl
    have HQ := lay hq
    have h5 : (400 : Int) < (n1 : Int) := by omega
    clear h hA hn hq
    go_enter Try.func84, Try.ntmps84
    go_wp2_with ((go_at_call 131; ((with_reducible refine (iqc HQ.out _).mono ?_); rintro ee w1 ⟨rfl, rfl⟩)))
    go_ret
    refine ⟨ret_bool HT.out, ?_⟩
    (repeat' (first | (with_reducible exact Below.refl _ _) | (with_reducible assumption) | (with_reducible refine Below.alloc ?_ ?_ _) | (with_reducible refine Below.drew ?_) | (with_reducible refine bdN ?_ _) | (with_reducible refine Below.setCell ?_ ?_ _) | (with_reducible refine chn ?_ (by assumption) ?_) | omega | (simp; done) | (simp; omega)))
  rw [okC_l hq (by omega)] at h
  obtain ⟨q1, q5⟩ := inB_iff.1 hq
  have hb : n1 ≤ 400 := by omega
  have h6 : ¬ ((400 : Int) < (n1 : Int)) := by omega
  have HT := lay h
  have HQ := lay hq
  have HA := lay hA
  have HN := lay hn
  clear h hA hn hq
  go_enter Try.func84, Try.ntmps84
  go_wp2_with (first | (go_at_call 131; ((with_reducible refine (iqc HQ.out _).mono ?_); rintro ee w1 ⟨rfl, rfl⟩)) | fail)
  go_loopg [18] n1 (fun k s1 wr => ∃ j : Nat, j + k = n1 ∧ s1 = .int .i64 (j : Int) ∧ Hid (∀ (i : Nat) (g : GateV), i < j → xs[i]? = some g → gB a0 g = true) ∧ Hid (Bb wr (w.heap.size) 58 #[.int .i64 a0, .slice A1 n1 c1]) ∧ Below w.heap.size w wr)
  case atStart => exact ⟨0, by omega, rfl, fun i g hi => absurd hi (Nat.not_lt_zero i), (by show Bb _ _ _ _; (repeat' (first | (with_reducible assumption) | (refine Bb.new (by first | (with_reducible rfl) | (simp; done))) | (with_reducible refine Bb.alloc ?_ _) | (with_reducible refine Bb.drew ?_) | (with_reducible refine Bb.drewN ?_ _) | (with_reducible refine Bb.mono ?_ (by assumption)) | (with_reducible refine Bb.far ?_ (by (try simp only [World.size_alloc, World.size_drew]); omega)) | (with_reducible refine Bb.set ?_ rfl) | (with_reducible refine Bb.grown ?_ (by assumption) (by assumption))))), by (repeat' (first | (with_reducible exact Below.refl _ _) | (with_reducible assumption) | (with_reducible refine Below.alloc ?_ ?_ _) | (with_reducible refine Below.drew ?_) | (with_reducible refine bdN ?_ _) | (with_reducible refine Below.setCell ?_ ?_ _) | (with_reducible refine chn ?_ (by assumption) ?_) | omega | (simp; done) | (simp; omega)))⟩
  case round =>
    obtain ⟨j, hj, rfl, HJ, Xa, hB⟩ := hrel
    have hBz := hB.size
    have ca0 := Xa.out.c 0 rfl
    have ca1 := Xa.out.c 1 rfl
    have la := Xa.out.lt
    cases gk with
    | zero =>
      obtain rfl : j = n1 := by omega
      have HH : Hid (true = t) := by rw [← HT.out]; exact (all_of (fun i g hg => HJ.out i g (by have := (List.getElem?_eq_some_iff.1 hg).1; rw [HN.out] at this; exact this) hg)).symm
      go_wp2_with (fail)
      go_ret
      exact ⟨ret_bool HH.out, hB⟩
    | succ m =>
      have hlt : j < n1 := by omega
      obtain ⟨x, hx⟩ : ∃ x, xs[j]? = some x := ⟨_, List.getElem?_eq_getElem (by rw [HN.out]; exact hlt)⟩
      obtain ⟨g, o, rfl, hgw, hC⟩ := HA.out.atGate hx
      have hC' : wr.cell? ⟨g, o + j * 3, none⟩ = some (.int .i64 x.f0) ∧ wr.cell? ⟨g, o + j * 3 + 1, none⟩ = some (.int .i64 x.f1) ∧ wr.cell? ⟨g, o + j * 3 + 2, none⟩ = some (.int .i64 x.f2) := ⟨(World.cell?_of_block (hB.block g hgw)).trans hC.1, (World.cell?_of_block (hB.block g hgw)).trans hC.2.1, (World.cell?_of_block (hB.block g hgw)).trans hC.2.2⟩
      obtain ⟨q0, q1', q2⟩ := hC'
      clear hC
      have HX := lay hx
      clear hx
      cases hk : vgB a0 x
      · have HK := lay hk
        have HH : Hid (false = t) := by rw [← HT.out]; exact (all_at HX.out (by have := HK.out; unfold vgB at this; rw [HQ.out] at this; exact this)).symm
        clear hk
        go_wp2_with ((go_at_call 141; ((with_reducible refine (ivg HK.out _).mono ?_); rintro ee w4 ⟨rfl, hb4⟩)))
        go_ret
        refine ⟨ret_bool HH.out, ?_⟩
        (repeat' (first | (with_reducible exact Below.refl _ _) | (with_reducible assumption) | (with_reducible refine Below.alloc ?_ ?_ _) | (with_reducible refine Below.drew ?_) | (with_reducible refine bdN ?_ _) | (with_reducible refine Below.setCell ?_ ?_ _) | (with_reducible refine chn ?_ (by assumption) ?_) | omega | (simp; done) | (simp; omega)))
      · have HK := lay hk
        clear hk
        go_wp2_with ((go_at_call 141; ((with_reducible refine (ivg HK.out _).mono ?_); rintro ee w4 ⟨rfl, hb4⟩)))
        have hW : Below wr.heap.size wr w4 := by (repeat' (first | (with_reducible exact Below.refl _ _) | (with_reducible assumption) | (with_reducible refine Below.alloc ?_ ?_ _) | (with_reducible refine Below.drew ?_) | (with_reducible refine bdN ?_ _) | (with_reducible refine Below.setCell ?_ ?_ _) | (with_reducible refine chn ?_ (by assumption) ?_) | omega | (simp; done) | (simp; omega)))
        go_roundg m
        case measure => omega
        case rel =>
          refine ⟨j + 1, by omega, by go_num, fun i g hi hg => ?_, Xa.out.mono hW, ?_⟩
          · by_cases e : i = j
            · subst e; rw [HX.out] at hg; cases hg; have := HK.out; unfold vgB at this; rw [HQ.out] at this; exact this
            · exact HJ.out i g (by omega) hg
          · exact chn hB hW hB.size

end Go.Proofs.Ytjedpeoafpljhaa.C4
