/- Ls1, Ls2 -/
import Derived.Test.YtnjckeadcbfogaaZq10
import Derived.StillTailTactics
namespace Go.Proofs.Ytnjckeadcbfogaa
open Go.RowKit RM
set_option linter.unusedVariables false
set_option linter.unusedSimpArgs false
attribute [local irreducible] World.setCell

theorem infoD : (Try.prog.info? 59).map (fun i => (i.zero, i.size, i.bytes)) = some (some (.agg #[.int .i64 0, .int .i64 0, .int .i64 0, .int .i64 0, .int .i64 0]), 5, 40) := by kernel_rfl
theorem mkD (n : Nat) (hn : n ≤ 1048576) (w : World) : (Instr.makeSlice 26 (.int .i64 (n : Int)) (.int .i64 (n : Int))).run Try.prog w = .ok (.slice (some ⟨w.heap.size, 0, none⟩) n n) (w.alloc (.cells (csL (List.replicate n z5)).toArray 59)) := by
  obtain ⟨i0, hi, hz0, hz1, hz2⟩ := info_parts infoD
  have := run_make (P := Try.prog) w 26 59 i0 _ Try.underlying26 hi hz0 .i64 .i64 n n (by omega) (Int.le_refl _) (by rw [hz2]; omega) (by omega)
  rw [this, hz1]
  simp only [Int.toNat_natCast, Value.cells, madeA]

set_option maxRecDepth 100000 in
set_option maxHeartbeats 2000000 in
theorem tds {A : Option Addr} {n c : Nat} {xs : List D5} {w : World} (hR : Rd w A xs) (hn : xs.length = n) (hb : n ≤ 1048576) :
    Calls Try.prog 77 #[.slice A n c] w fun ee w' => ee = .returned (.slice (some ⟨w.heap.size, 0, none⟩) n n) ∧ Bk w' w.heap.size 59 xs ∧ Below w.heap.size w w' := by
  have hmk := mkD n hb
  have HR := hid hR
  have HN := hid hn
  clear hR hn
  go_enter Try.func77, Try.ntmps77
  go_wp2_with (fail)
  go_loopg [4] n (fun k s1 wr => ∃ j : Nat, j + k = n ∧ s1 = .int .i64 (j : Int) ∧ Bk wr w.heap.size 59 (xs.take j ++ List.replicate (n - j) z5) ∧ Below w.heap.size w wr)
  case atStart => exact ⟨0, by omega, rfl, Bk.made _ _ _, by (repeat' (first | (with_reducible exact Below.refl _ _) | (with_reducible assumption) | (with_reducible refine Below.alloc ?_ ?_ _) | (with_reducible refine Below.drew ?_) | (with_reducible refine below_drewN ?_ _) | (with_reducible refine Below.setCell ?_ ?_ _) | (with_reducible refine chain ?_ (by assumption) ?_) | omega | (simp; done) | (simp; omega)))⟩
  case round =>
    obtain ⟨j, hj, rfl, hBk, hB⟩ := hrel
    cases gk with
    | zero =>
      obtain rfl : j = n := by omega
      have HBk := hid hBk
      clear hBk
      go_wp2_with (fail)
      go_ret
      refine ⟨rfl, ?_, hB⟩
      have h1 := HBk.out
      rw [Nat.sub_self, List.replicate_zero, List.append_nil, List.take_of_length_le (by rw [HN.out]; exact Nat.le_refl _)] at h1
      exact h1
    | succ m =>
      have hlt : j < n := by omega
      have hx : xs[j]? = some (xs[j]'(by rw [HN.out]; exact hlt)) := List.getElem?_eq_getElem _
      generalize xs[j]'(by rw [HN.out]; exact hlt) = x at hx
      obtain ⟨g, o, rfl, hC⟩ := HR.out j x hx
      have HX := hid hx
      clear hx
      have hgw := hC.lt
      obtain ⟨q0, q1, q2, q3, q4⟩ := hC.at_ (hB.block g hgw)
      have hsz := hBk.lt
      have HBk := hid hBk
      clear hBk
      go_wp2_with ((go_at_call 143; ((with_reducible refine (td _ _ _ _ _ _).mono ?_); rintro ee w1 ⟨rfl, hb1⟩; have hBk1 := hid (HBk.out.mono hb1); have fr1 := hBk1.out.fr; have hz1 := hBk1.out.lt; obtain ⟨p0, p1, p2, p3, p4⟩ := hBk1.out.cx (k := j) (x := z5) (fill_at HN.out hlt))))
      go_roundg m
      case measure => omega
      case rel =>
        refine ⟨j + 1, by omega, by go_num, ?_, ?_⟩
        · have h1 := hBk1.out.set x (k := j) (by rw [List.length_append, List.length_take, List.length_replicate, HN.out]; omega)
          rw [fill_set HN.out HX.out] at h1
          exact h1
        · exact set5_below (hB.trans (hb1.mono hB.size)) (Nat.le_refl _)

set_option maxRecDepth 100000 in
set_option maxHeartbeats 2000000 in
theorem eqs {A B : Option Addr} {n c d : Nat} {xs : List D5} {w : World} (hA : Rd w A xs) (hB : Rd w B xs) (hn : xs.length = n) (hb : n ≤ 1048576) :
    Calls Try.prog 80 #[.slice A n c, .slice B n d] w fun ee w' => ee = .returned (.bool true) ∧ Below w.heap.size w w' := by
  have HA := hid hA
  have HB := hid hB
  have HN := hid hn
  clear hA hB hn
  go_enter Try.func80, Try.ntmps80
  go_wp2_with (fail)
  go_loopg [5] n (fun k s1 wr => ∃ j : Nat, j + k = n ∧ s1 = .int .i64 (j : Int) ∧ Below w.heap.size w wr)
  case atStart => exact ⟨0, by omega, rfl, by (repeat' (first | (with_reducible exact Below.refl _ _) | (with_reducible assumption) | (with_reducible refine Below.alloc ?_ ?_ _) | (with_reducible refine Below.drew ?_) | (with_reducible refine below_drewN ?_ _) | (with_reducible refine Below.setCell ?_ ?_ _) | (with_reducible refine chain ?_ (by assumption) ?_) | omega | (simp; done) | (simp; omega)))⟩
  case round =>
    obtain ⟨j, hj, rfl, hB⟩ := hrel
    cases gk with
    | zero =>
      obtain rfl : j = n := by omega
      go_wp2_with (fail)
      go_ret
      exact ⟨rfl, hB⟩
    | succ m =>
      have hlt : j < n := by omega
      have hx : xs[j]? = some (xs[j]'(by rw [HN.out]; exact hlt)) := List.getElem?_eq_getElem _
      generalize xs[j]'(by rw [HN.out]; exact hlt) = x at hx
      obtain ⟨g, o, rfl, hC⟩ := HA.out j x hx
      obtain ⟨g', o', rfl, hC'⟩ := HB.out j x hx
      clear hx
      have hgw := hC.lt
      have hgw' := hC'.lt
      obtain ⟨q0, q1, q2, q3, q4⟩ := hC.at_ (hB.block g hgw)
      obtain ⟨p0, p1, p2, p3, p4⟩ := hC'.at_ (hB.block g' hgw')
      clear hC hC'
      go_wp2_with (fail)
      go_still_tail 8, (by kernel_rfl)
      change wpList _ _ _ _ _ wr.drew
      have hBd : Below w.heap.size w wr.drew := hB.drew
      generalize wr.drew = w2 at *
      go_wp2_with ((go_at_call 44; ((with_reducible refine (ed _ _ _ _ _ _).mono ?_); rintro ee w1 ⟨rfl, hb1⟩)))
      go_roundg m
      case measure => omega
      case rel => exact ⟨j + 1, by omega, by go_num, chain hBd hb1 hBd.size⟩

end Go.Proofs.Ytnjckeadcbfogaa
namespace Go.Proofs.Ytnjckeadcbfogaa
open Go.RowKit RM
set_option linter.unusedVariables false
set_option linter.unusedSimpArgs false
attribute [local irreducible] World.setCell

set_option maxRecDepth 100000 in
set_option maxHeartbeats 2000000 in
theorem szs_t {A : Option Addr} {n c : Nat} {k : Int} {w : World} (hn : (n : Int) ≤ k) (hk : k ≤ 1048576) :
    Calls Try.prog 73 #[.slice A n c, .int .i64 k] w fun ee w' => ee = .returned (.int .i64 (k - n)) ∧ Below w.heap.size w w' := by
  have h0 : ¬ (k - (n : Int) < 0) := by omega
  have h1 : 0 ≤ k - (n : Int) := by omega
  go_enter Try.func73, Try.ntmps73
  go_wp2_with (fail)
  go_ret
  exact ⟨rfl, by (repeat' (first | (with_reducible exact Below.refl _ _) | (with_reducible assumption) | (with_reducible refine Below.alloc ?_ ?_ _) | (with_reducible refine Below.drew ?_) | (with_reducible refine below_drewN ?_ _) | (with_reducible refine Below.setCell ?_ ?_ _) | (with_reducible refine chain ?_ (by assumption) ?_) | omega | (simp; done) | (simp; omega)))⟩

set_option maxRecDepth 100000 in
set_option maxHeartbeats 2000000 in
theorem szs_f {A : Option Addr} {n c : Nat} {k : Int} {w : World} (hn : k < (n : Int)) (hk : k ≤ 1048576) (h0 : 0 ≤ k) (hb : n ≤ maxLen) :
    Calls Try.prog 73 #[.slice A n c, .int .i64 k] w fun ee w' => ee = .returned (.int .i64 (-1)) ∧ Below w.heap.size w w' := by
  unfold maxLen at hb
  go_enter Try.func73, Try.ntmps73
  go_wp2_with (fail)
  go_ret
  exact ⟨rfl, by (repeat' (first | (with_reducible exact Below.refl _ _) | (with_reducible assumption) | (with_reducible refine Below.alloc ?_ ?_ _) | (with_reducible refine Below.drew ?_) | (with_reducible refine below_drewN ?_ _) | (with_reducible refine Below.setCell ?_ ?_ _) | (with_reducible refine chain ?_ (by assumption) ?_) | omega | (simp; done) | (simp; omega)))⟩

set_option maxRecDepth 100000 in
set_option maxHeartbeats 2000000 in
theorem mks_n {A : Option Addr} {c : Nat} {k : Int} {w : World} :
    Calls Try.prog 81 #[.slice A 0 c, .int .i64 k] w fun ee w' => ee = .returned (.int .i64 k) ∧ Below w.heap.size w w' := by
  go_enter Try.func81, Try.ntmps81
  go_wp2_with (fail)
  refine wp_loop_rounds 1 ?_
  rw [rounds_succ]; go_wp2_with (fail)
  go_ret
  exact ⟨rfl, by (repeat' (first | (with_reducible exact Below.refl _ _) | (with_reducible assumption) | (with_reducible refine Below.alloc ?_ ?_ _) | (with_reducible refine Below.drew ?_) | (with_reducible refine below_drewN ?_ _) | (with_reducible refine Below.setCell ?_ ?_ _) | (with_reducible refine chain ?_ (by assumption) ?_) | omega | (simp; done) | (simp; omega)))⟩

set_option maxRecDepth 100000 in
set_option maxHeartbeats 4000000 in
theorem mks_s {g n c : Nat} {k : Int} {xs : List D5} {w : World} (hB : Bk w g 59 xs) (hn : xs.length = n) (hb : n ≤ 1048576) (h0 : 0 ≤ k) (h1 : k ≤ 10000000) :
    Calls Try.prog 81 #[.slice (some ⟨g, 0, none⟩) n c, .int .i64 k] w fun ee w' => ee = .returned (.int .i64 (k + 5 * (n : Int))) ∧ Bk w' g 59 (mks k n) ∧ w.grownBy w' (some g) := by
  have HB := hid hB
  have HN := hid hn
  clear hB hn
  go_enter Try.func81, Try.ntmps81
  go_wp2_with (fail)
  go_loopg [1, 5] n (fun q s0 s1 wr => ∃ j : Nat, j + q = n ∧ s0 = .int .i64 (k + 5 * (j : Int)) ∧ s1 = .int .i64 (j : Int) ∧ Bk wr g 59 (mks k j ++ xs.drop j) ∧ w.grownBy wr (some g))
  case atStart => exact ⟨0, by omega, by first | (go_num; done) | simp, rfl, HB.out, grown_below (Below.refl _ _)⟩
  case round =>
    obtain ⟨j, hj, rfl, rfl, hBk, hG⟩ := hrel
    cases gk with
    | zero =>
      obtain rfl : j = n := by omega
      have HBk := hid hBk
      clear hBk
      go_wp2_with (fail)
      go_ret
      refine ⟨rfl, ?_, hG⟩
      have h1 := HBk.out
      rw [List.drop_of_length_le (by rw [HN.out]; exact Nat.le_refl _), List.append_nil] at h1
      exact h1
    | succ m =>
      have hlt : j < n := by omega
      have hl : j < xs.length := by rw [HN.out]; exact hlt
      obtain ⟨x, hx⟩ : ∃ x, xs[j]? = some x := ⟨_, List.getElem?_eq_getElem hl⟩
      obtain ⟨p0, p1, p2, p3, p4⟩ := hBk.cx (mks_at (k := k) hx)
      have HL := hid hl
      clear hx hl
      have fr := hBk.fr
      have hsz := hBk.lt
      have HBk := hid hBk
      clear hBk
      have b0 : 0 ≤ k + 5 * (j : Int) := by omega
      have b1 : k + 5 * (j : Int) ≤ 100000000 := by omega
      go_wp2_with (fail)
      go_roundg m
      case measure => omega
      case rel =>
        refine ⟨j + 1, by omega, by go_num, by go_num, ?_, ?_⟩
        · have h1 := HBk.out.set (mk1 k j) (k := j) (by rw [List.length_append, mks_len, List.length_drop]; have := HL.out; omega)
          rw [mks_set HL.out] at h1
          exact h1
        · exact grown_set5 (x := mk1 k j) (o := j * 5) hG

set_option maxRecDepth 100000 in
set_option maxHeartbeats 4000000 in
theorem hds {A : Option Addr} {n c : Nat} {k : Int} {w : World} (hA : Rd w A (mks k n)) (hb : n ≤ 1048576) (h0 : 0 ≤ k) (h1 : k ≤ 10000000) :
    Calls Try.prog 82 #[.slice A n c, .int .i64 k] w fun ee w' => ee = .returned (.int .i64 (k + 5 * (n : Int))) ∧ Below w.heap.size w w' := by
  have HA := hid hA
  clear hA
  go_enter Try.func82, Try.ntmps82
  go_wp2_with (fail)
  go_loopg [1, 5] n (fun q s0 s1 wr => ∃ j : Nat, j + q = n ∧ s0 = .int .i64 (k + 5 * (j : Int)) ∧ s1 = .int .i64 (j : Int) ∧ Below w.heap.size w wr)
  case atStart => exact ⟨0, by omega, by first | (go_num; done) | simp, rfl, by (repeat' (first | (with_reducible exact Below.refl _ _) | (with_reducible assumption) | (with_reducible refine Below.alloc ?_ ?_ _) | (with_reducible refine Below.drew ?_) | (with_reducible refine below_drewN ?_ _) | (with_reducible refine Below.setCell ?_ ?_ _) | (with_reducible refine chain ?_ (by assumption) ?_) | omega | (simp; done) | (simp; omega)))⟩
  case round =>
    obtain ⟨j, hj, rfl, rfl, hB⟩ := hrel
    cases gk with
    | zero =>
      obtain rfl : j = n := by omega
      go_wp2_with (fail)
      go_ret
      exact ⟨rfl, hB⟩
    | succ m =>
      have hlt : j < n := by omega
      obtain ⟨g, o, rfl, hC⟩ := HA.out j _ (mks_get k hlt)
      obtain ⟨q0, q1, q2, q3, q4⟩ := hC.at_ (hB.block g hC.lt)
      simp only [mk1] at q0 q1 q2 q3 q4
      clear hC
      have b0 : 0 ≤ k + 5 * (j : Int) := by omega
      have b1 : k + 5 * (j : Int) ≤ 100000000 := by omega
      go_wp2_with (fail)
      go_roundg m
      case measure => omega
      case rel => exact ⟨j + 1, by omega, by go_num, by go_num, hB⟩

end Go.Proofs.Ytnjckeadcbfogaa
