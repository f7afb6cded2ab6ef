/- Contracts of what the laws call on slices of Pauli operators. -/
import Derived.Test.YtjedpeoafpljhaaPf
import Derived.Test.YtjedpeoafpljhaaQFlat
import Derived.StillTailTactics
namespace Go.Proofs.Ytjedpeoafpljhaa.C4
open Go.RowKit
set_option linter.unusedVariables false
set_option linter.unusedSimpArgs false
attribute [local irreducible] World.setCell

set_option maxRecDepth 100000 in
set_option maxHeartbeats 2000000 in
theorem toPauliS {A : Option Addr} {n c : Nat} {xs : List PauliV} {w : World} (hR : Rd pauliE w A xs) (hn : xs.length = n) (hb : n ≤ 1048576) :
    Calls Try.prog 99 #[.slice A n c] w fun ee w' => ee = .returned (.slice (some ⟨w.heap.size, 0, none⟩) n n) ∧ Bk pauliE w' w.heap.size 43 xs ∧ Below w.heap.size w w' := by
  have hmk := mkPauli n hb
  have HR := lay hR
  have HN := lay hn
  clear hR hn
  go_enter Try.func99, Try.ntmps99
  go_wp2_with (fail)
  go_loopg [4] n (fun k s1 wr => ∃ j : Nat, j + k = n ∧ s1 = .int .i64 (j : Int) ∧ Bk pauliE wr w.heap.size 43 (xs.take j ++ List.replicate (n - j) PauliV.z) ∧ Below w.heap.size w wr)
  case atStart => exact ⟨0, by omega, rfl, Bk.made rfl, by (repeat' (first | (with_reducible exact Below.refl _ _) | (with_reducible assumption) | (with_reducible refine Below.alloc ?_ ?_ _) | (with_reducible refine Below.drew ?_) | (with_reducible refine bdN ?_ _) | (with_reducible refine Below.setCell ?_ ?_ _) | (with_reducible refine chn ?_ (by assumption) ?_) | omega | (simp; done) | (simp; omega)))⟩
  case round =>
    obtain ⟨j, hj, rfl, hBk, hB⟩ := hrel
    cases gk with
    | zero =>
      obtain rfl : j = n := by omega
      have HBk := lay hBk
      clear hBk
      go_wp2_with (fail)
      go_ret
      refine ⟨rfl, ?_, hB⟩
      have h1 := HBk.out
      rw [Nat.sub_self, List.replicate_zero, List.append_nil, List.take_of_length_le (by rw [HN.out]; exact Nat.le_refl _)] at h1
      exact h1
    | succ m =>
      have hlt : j < n := by omega
      have hx : xs[j]? = some (xs[j]'(by rw [HN.out]; exact hlt)) := List.getElem?_eq_getElem _
      generalize xs[j]'(by rw [HN.out]; exact hlt) = x at hx
      obtain ⟨g, o, rfl, hgw, hC⟩ := HR.out.atPauli hx
      have HX := lay hx
      clear hx
      have hC' : wr.cell? ⟨g, o + j * 3, none⟩ = some (.int .i64 x.f0) ∧ wr.cell? ⟨g, o + j * 3 + 1, none⟩ = some (.int .i64 x.f1) ∧ wr.cell? ⟨g, o + j * 3 + 2, none⟩ = some (.int .i64 x.f2) := ⟨(World.cell?_of_block (hB.block g hgw)).trans hC.1, (World.cell?_of_block (hB.block g hgw)).trans hC.2.1, (World.cell?_of_block (hB.block g hgw)).trans hC.2.2⟩
      obtain ⟨q0, q1, q2⟩ := hC'
      have hsz := hBk.lt
      have HBk := lay hBk
      clear hBk hC
      go_wp2_with ((go_at_call 24; ((with_reducible refine (toPauli x _).mono ?_); rintro ee w1 ⟨rfl, hb1⟩; have hBk1 := lay (HBk.out.mono hb1); have fr1 := hBk1.out.fr; have hz1 := hBk1.out.lt; obtain ⟨p0, p1, p2⟩ := hBk1.out.atPauli (k := j) (x := PauliV.z) (filAt HN.out hlt))))
      go_roundg m
      case measure => omega
      case rel =>
        refine ⟨j + 1, by omega, by go_num, ?_, ?_⟩
        · have h1 := hBk1.out.stPauli x (k := j) (by rw [filLen HN.out (Nat.le_of_lt hlt)]; exact hlt)
          rw [filSet HN.out HX.out] at h1
          exact h1
        · have hBx : Below w.heap.size w _ := hB.trans (hb1.mono hB.size)
          (repeat' (first | (with_reducible exact Below.refl _ _) | (with_reducible assumption) | (with_reducible refine Below.alloc ?_ ?_ _) | (with_reducible refine Below.drew ?_) | (with_reducible refine bdN ?_ _) | (with_reducible refine Below.setCell ?_ ?_ _) | (with_reducible refine chn ?_ (by assumption) ?_) | omega | (simp; done) | (simp; omega)))

set_option maxRecDepth 100000 in
set_option maxHeartbeats 2000000 in
theorem eqPauliS {A B : Option Addr} {n c d : Nat} {xs : List PauliV} {w : World} (hA : Rd pauliE w A xs) (hB : Rd pauliE w B xs) (hn : xs.length = n) (hb : n ≤ 1048576) :
    Calls Try.prog 91 #[.slice A n c, .slice B n d] w fun ee w' => ee = .returned (.bool true) ∧ Below w.heap.size w w' := by
  have HA := lay hA
  have HB := lay hB
  have HN := lay hn
  clear hA hB hn
  go_enter Try.func91, Try.ntmps91
  go_wp2_with (fail)
  go_loopg [5] n (fun k s1 wr => ∃ j : Nat, j + k = n ∧ s1 = .int .i64 (j : Int) ∧ Below w.heap.size w wr)
  case atStart => exact ⟨0, by omega, rfl, by (repeat' (first | (with_reducible exact Below.refl _ _) | (with_reducible assumption) | (with_reducible refine Below.alloc ?_ ?_ _) | (with_reducible refine Below.drew ?_) | (with_reducible refine bdN ?_ _) | (with_reducible refine Below.setCell ?_ ?_ _) | (with_reducible refine chn ?_ (by assumption) ?_) | omega | (simp; done) | (simp; omega)))⟩
  case round =>
    obtain ⟨j, hj, rfl, hB⟩ := hrel
    cases gk with
    | zero =>
      obtain rfl : j = n := by omega
      go_wp2_with (fail)
      go_ret
      exact ⟨rfl, hB⟩
    | succ m =>
      have hlt : j < n := by omega
      have hx : xs[j]? = some (xs[j]'(by rw [HN.out]; exact hlt)) := List.getElem?_eq_getElem _
      generalize xs[j]'(by rw [HN.out]; exact hlt) = x at hx
      obtain ⟨g, o, rfl, hgw, hC⟩ := HA.out.atPauli hx
      obtain ⟨g', o', rfl, hgw', hD⟩ := HB.out.atPauli hx
      clear hx
      have hC' : wr.cell? ⟨g, o + j * 3, none⟩ = some (.int .i64 x.f0) ∧ wr.cell? ⟨g, o + j * 3 + 1, none⟩ = some (.int .i64 x.f1) ∧ wr.cell? ⟨g, o + j * 3 + 2, none⟩ = some (.int .i64 x.f2) := ⟨(World.cell?_of_block (hB.block g hgw)).trans hC.1, (World.cell?_of_block (hB.block g hgw)).trans hC.2.1, (World.cell?_of_block (hB.block g hgw)).trans hC.2.2⟩
      have hD' : wr.cell? ⟨g', o' + j * 3, none⟩ = some (.int .i64 x.f0) ∧ wr.cell? ⟨g', o' + j * 3 + 1, none⟩ = some (.int .i64 x.f1) ∧ wr.cell? ⟨g', o' + j * 3 + 2, none⟩ = some (.int .i64 x.f2) := ⟨(World.cell?_of_block (hB.block g' hgw')).trans hD.1, (World.cell?_of_block (hB.block g' hgw')).trans hD.2.1, (World.cell?_of_block (hB.block g' hgw')).trans hD.2.2⟩
      obtain ⟨q0, q1, q2⟩ := hC'
      obtain ⟨p0, p1, p2⟩ := hD'
      clear hC hD
      go_wp2_with (fail)
      go_still_tail 8, (by kernel_rfl)
      change wpList _ _ _ _ _ wr.drew
      have hBd : Below w.heap.size w wr.drew := hB.drew
      have hzd := hBd.size
      generalize wr.drew = w2 at *
      go_wp2_with ((go_at_call 48; ((with_reducible refine (eqPauli x _).mono ?_); rintro ee w1 ⟨rfl, hb1⟩)))
      go_roundg m
      case measure => omega
      case rel =>
        refine ⟨j + 1, by omega, by go_num, ?_⟩
        (repeat' (first | (with_reducible exact Below.refl _ _) | (with_reducible assumption) | (with_reducible refine Below.alloc ?_ ?_ _) | (with_reducible refine Below.drew ?_) | (with_reducible refine bdN ?_ _) | (with_reducible refine Below.setCell ?_ ?_ _) | (with_reducible refine chn ?_ (by assumption) ?_) | omega | (simp; done) | (simp; omega)))

set_option maxRecDepth 100000 in
set_option maxHeartbeats 2000000 in
theorem szPauliS_t {A : Option Addr} {n c : Nat} {k : Int} {w : World} (hn : (n : Int) ≤ k) (hk : k ≤ 1048576) :
    Calls Try.prog 96 #[.slice A n c, .int .i64 k] w fun ee w' => ee = .returned (.int .i64 (k - n)) ∧ Below w.heap.size w w' := by
  have h0 : ¬ (k - (n : Int) < 0) := by omega
  have h1 : 0 ≤ k - (n : Int) := by omega
  go_enter Try.func96, Try.ntmps96
  go_wp2_with (fail)
  go_ret
  exact ⟨rfl, by (repeat' (first | (with_reducible exact Below.refl _ _) | (with_reducible assumption) | (with_reducible refine Below.alloc ?_ ?_ _) | (with_reducible refine Below.drew ?_) | (with_reducible refine bdN ?_ _) | (with_reducible refine Below.setCell ?_ ?_ _) | (with_reducible refine chn ?_ (by assumption) ?_) | omega | (simp; done) | (simp; omega)))⟩

set_option maxRecDepth 100000 in
set_option maxHeartbeats 2000000 in
theorem szPauliS_f {A : Option Addr} {n c : Nat} {k : Int} {w : World} (hn : k < (n : Int)) (hk : k ≤ 1048576) (h0 : 0 ≤ k) (hb : n ≤ maxLen) :
    Calls Try.prog 96 #[.slice A n c, .int .i64 k] w fun ee w' => ee = .returned (.int .i64 (-1)) ∧ Below w.heap.size w w' := by
  unfold maxLen at hb
  go_enter Try.func96, Try.ntmps96
  go_wp2_with (fail)
  go_ret
  exact ⟨rfl, by (repeat' (first | (with_reducible exact Below.refl _ _) | (with_reducible assumption) | (with_reducible refine Below.alloc ?_ ?_ _) | (with_reducible refine Below.drew ?_) | (with_reducible refine bdN ?_ _) | (with_reducible refine Below.setCell ?_ ?_ _) | (with_reducible refine chn ?_ (by assumption) ?_) | omega | (simp; done) | (simp; omega)))⟩

set_option maxRecDepth 100000 in
set_option maxHeartbeats 2000000 in
theorem markPauliS_n {A : Option Addr} {c : Nat} {k : Int} {w : World} :
    Calls Try.prog 94 #[.slice A 0 c, .int .i64 k] w fun ee w' => ee = .returned (.int .i64 k) ∧ Below w.heap.size w w' := by
  go_enter Try.func94, Try.ntmps94
  go_wp2_with (fail)
  refine wp_loop_rounds 1 ?_
  rw [rounds_succ]; go_wp2_with (fail)
  go_ret
  exact ⟨rfl, by (repeat' (first | (with_reducible exact Below.refl _ _) | (with_reducible assumption) | (with_reducible refine Below.alloc ?_ ?_ _) | (with_reducible refine Below.drew ?_) | (with_reducible refine bdN ?_ _) | (with_reducible refine Below.setCell ?_ ?_ _) | (with_reducible refine chn ?_ (by assumption) ?_) | omega | (simp; done) | (simp; omega)))⟩

set_option maxRecDepth 100000 in
set_option maxHeartbeats 4000000 in
theorem markPauliS_s {g n c : Nat} {k : Int} {xs : List PauliV} {w : World} (hB : Bs pauliE w g 43 xs) (hn : xs.length = n) (hb : n ≤ 1048576) (h0 : 0 ≤ k) (h1 : k ≤ 100000000) :
    Calls Try.prog 94 #[.slice (some ⟨g, 0, none⟩) n c, .int .i64 k] w fun ee w' => ee = .returned (.int .i64 (k + 3 * (n : Int))) ∧ Bs pauliE w' g 43 (mks PauliV.mark k n) ∧ w.grownBy w' (some g) := by
  have HB := lay hB
  have HN := lay hn
  clear hB hn
  go_enter Try.func94, Try.ntmps94
  go_wp2_with (fail)
  go_loopg [1, 5] n (fun q s0 s1 wr => ∃ j : Nat, j + q = n ∧ s0 = .int .i64 (k + 3 * (j : Int)) ∧ s1 = .int .i64 (j : Int) ∧ Bs pauliE wr g 43 (mks PauliV.mark k j ++ xs.drop j) ∧ w.grownBy wr (some g))
  case atStart => exact ⟨0, by omega, by first | (go_num; done) | simp, rfl, HB.out, grwB (Below.refl _ _)⟩
  case round =>
    obtain ⟨j, hj, rfl, rfl, hBk, hG⟩ := hrel
    cases gk with
    | zero =>
      obtain rfl : j = n := by omega
      have HBk := lay hBk
      clear hBk
      go_wp2_with (fail)
      go_ret
      refine ⟨rfl, ?_, hG⟩
      have h1 := HBk.out
      rw [List.drop_of_length_le (by rw [HN.out]; exact Nat.le_refl _), List.append_nil] at h1
      exact h1
    | succ m =>
      have hlt : j < n := by omega
      have hl : j < xs.length := by rw [HN.out]; exact hlt
      obtain ⟨x, hx⟩ : ∃ x, xs[j]? = some x := ⟨_, List.getElem?_eq_getElem hl⟩
      obtain ⟨p0, p1, p2⟩ := hBk.atPauli (mks_at PauliV.mark (k := k) hx)
      have HL := lay hl
      clear hx hl
      have fr := hBk.fr
      have hsz := hBk.lt
      have HBk := lay hBk
      clear hBk
      have b0 : 0 ≤ k + 3 * (j : Int) := by omega
      have b1 : k + 3 * (j : Int) ≤ 1000000000 := by omega
      go_wp2_with (fail)
      go_roundg m
      case measure => omega
      case rel =>
        refine ⟨j + 1, by omega, by go_num, by go_num, ?_, ?_⟩
        · have h1 := HBk.out.stPauli (PauliV.mark k j) (k := j) (by rw [List.length_append, mks_len, List.length_drop]; have := HL.out; omega)
          rw [mks_set PauliV.mark HL.out] at h1
          exact h1
        · exact setN_grown (vs := pauliE.cs (PauliV.mark k j)) (o := j * 3) hG

theorem markPauliS {A : Option Addr} {B n c : Nat} {k : Int} {xs : List PauliV} {w : World} (hO : Ow pauliE w B 43 A xs) (hn : xs.length = n) (hb : n ≤ 1048576) (h0 : 0 ≤ k) (h1 : k ≤ 100000000) :
    Calls Try.prog 94 #[.slice A n c, .int .i64 k] w fun ee w' => ee = .returned (.int .i64 (k + 3 * (n : Int))) ∧ Ow pauliE w' B 43 A (mks PauliV.mark k n) ∧ w.grownBy w' (blk A) := by
  rcases hO with ⟨rfl, rfl⟩ | ⟨g, rfl, hg, hB⟩
  · obtain rfl : n = 0 := hn.symm
    refine markPauliS_n.mono ?_
    rintro ee w1 ⟨rfl, hb1⟩
    exact ⟨by simp, Or.inl ⟨rfl, rfl⟩, grwB hb1⟩
  · refine (markPauliS_s hB hn hb h0 h1).mono ?_
    rintro ee w1 ⟨rfl, hB1, hg1⟩
    exact ⟨rfl, Or.inr ⟨g, rfl, hg, hB1⟩, hg1⟩

set_option maxRecDepth 100000 in
set_option maxHeartbeats 4000000 in
theorem heldPauliS {A : Option Addr} {n c : Nat} {k : Int} {w : World} (hA : Rd pauliE w A (mks PauliV.mark k n)) (hb : n ≤ 1048576) (h0 : 0 ≤ k) (h1 : k ≤ 100000000) :
    Calls Try.prog 95 #[.slice A n c, .int .i64 k] w fun ee w' => ee = .returned (.int .i64 (k + 3 * (n : Int))) ∧ Below w.heap.size w w' := by
  have HA := lay hA
  clear hA
  go_enter Try.func95, Try.ntmps95
  go_wp2_with (fail)
  go_loopg [1, 5] n (fun q s0 s1 wr => ∃ j : Nat, j + q = n ∧ s0 = .int .i64 (k + 3 * (j : Int)) ∧ s1 = .int .i64 (j : Int) ∧ Below w.heap.size w wr)
  case atStart => exact ⟨0, by omega, by first | (go_num; done) | simp, rfl, by (repeat' (first | (with_reducible exact Below.refl _ _) | (with_reducible assumption) | (with_reducible refine Below.alloc ?_ ?_ _) | (with_reducible refine Below.drew ?_) | (with_reducible refine bdN ?_ _) | (with_reducible refine Below.setCell ?_ ?_ _) | (with_reducible refine chn ?_ (by assumption) ?_) | omega | (simp; done) | (simp; omega)))⟩
  case round =>
    obtain ⟨j, hj, rfl, rfl, hB⟩ := hrel
    cases gk with
    | zero =>
      obtain rfl : j = n := by omega
      go_wp2_with (fail)
      go_ret
      exact ⟨rfl, hB⟩
    | succ m =>
      have hlt : j < n := by omega
      obtain ⟨g, o, rfl, hgw, hC⟩ := HA.out.atPauli (mks_get PauliV.mark k hlt)
      have hC' : wr.cell? ⟨g, o + j * 3, none⟩ = some (.int .i64 (PauliV.mark k j).f0) ∧ wr.cell? ⟨g, o + j * 3 + 1, none⟩ = some (.int .i64 (PauliV.mark k j).f1) ∧ wr.cell? ⟨g, o + j * 3 + 2, none⟩ = some (.int .i64 (PauliV.mark k j).f2) := ⟨(World.cell?_of_block (hB.block g hgw)).trans hC.1, (World.cell?_of_block (hB.block g hgw)).trans hC.2.1, (World.cell?_of_block (hB.block g hgw)).trans hC.2.2⟩
      clear hC
      simp only [PauliV.mark] at hC'
      obtain ⟨q0, q1, q2⟩ := hC'
      have b0 : 0 ≤ k + 3 * (j : Int) := by omega
      have b1 : k + 3 * (j : Int) ≤ 1000000000 := by omega
      go_wp2_with (fail)
      go_roundg m
      case measure => omega
      case rel => exact ⟨j + 1, by omega, by go_num, by go_num, hB⟩

end Go.Proofs.Ytjedpeoafpljhaa.C4
