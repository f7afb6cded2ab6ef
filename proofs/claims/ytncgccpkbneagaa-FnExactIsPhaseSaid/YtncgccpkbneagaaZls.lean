/- Ls1, Ls2, Ls3 -/
import Derived.Test.YtncgccpkbneagaaZmx
import Derived.StillTailTactics
namespace Go.Proofs.Ytncgccpkbneagaa
open Go.RowKit RM
set_option linter.unusedVariables false
set_option linter.unusedSimpArgs false
attribute [local irreducible] World.setCell

theorem infoD : (Try.prog.info? 37).map (fun i => (i.zero, i.size, i.bytes)) = some (some (.agg #[.int .i64 0, .int .i64 0, .int .i64 0, .int .i64 0, .int .i64 0]), 5, 40) := by kernel_rfl
theorem mkD (n : Nat) (hn : n ≤ 1048576) (w : World) : (Instr.makeSlice 24 (.int .i64 (n : Int)) (.int .i64 (n : Int))).run Try.prog w = .ok (.slice (some ⟨w.heap.size, 0, none⟩) n n) (w.alloc (.cells (csL (List.replicate n z5)).toArray 37)) := by
  obtain ⟨i0, hi, hz0, hz1, hz2⟩ := info_parts infoD
  have := run_make (P := Try.prog) w 24 37 i0 _ Try.underlying24 hi hz0 .i64 .i64 n n (by omega) (Int.le_refl _) (by rw [hz2]; omega) (by omega)
  rw [this, hz1]
  simp only [Int.toNat_natCast, Value.cells, madeA]

set_option maxRecDepth 100000 in
set_option maxHeartbeats 2000000 in
theorem tds {A : Option Addr} {n c : Nat} {xs : List D5} {w : World} (hR : Rd w A xs) (hn : xs.length = n) (hb : n ≤ 1048576) :
    Calls Try.prog 81 #[.slice A n c] w fun ee w' => ee = .returned (.slice (some ⟨w.heap.size, 0, none⟩) n n) ∧ Bk w' w.heap.size 37 xs ∧ Below w.heap.size w w' := by
  have hmk := mkD n hb
  have HR := hid hR
  have HN := hid hn
  clear hR hn
  go_enter Try.func81, Try.ntmps81
  go_wp2_with (fail)
  go_loopg [4] n (fun k s1 wr => ∃ j : Nat, j + k = n ∧ s1 = .int .i64 (j : Int) ∧ Bk wr w.heap.size 37 (xs.take j ++ List.replicate (n - j) z5) ∧ Below w.heap.size w wr)
  case atStart => exact ⟨0, by omega, rfl, Bk.made _ _ _, by (repeat' (first | (with_reducible exact Below.refl _ _) | (with_reducible assumption) | (with_reducible refine Below.alloc ?_ ?_ _) | (with_reducible refine Below.drew ?_) | (with_reducible refine below_drewN ?_ _) | (with_reducible refine Below.setCell ?_ ?_ _) | (with_reducible refine chain ?_ (by assumption) ?_) | omega | (simp; done) | (simp; omega)))⟩
  case round =>
    obtain ⟨j, hj, rfl, hBk, hB⟩ := hrel
    cases gk with
    | zero =>
      obtain rfl : j = n := by omega
      have HBk := hid hBk
      clear hBk
      go_wp2_with (fail)
      go_ret
      refine ⟨rfl, ?_, hB⟩
      have h1 := HBk.out
      rw [Nat.sub_self, List.replicate_zero, List.append_nil, List.take_of_length_le (by rw [HN.out]; exact Nat.le_refl _)] at h1
      exact h1
    | succ m =>
      have hlt : j < n := by omega
      have hx : xs[j]? = some (xs[j]'(by rw [HN.out]; exact hlt)) := List.getElem?_eq_getElem _
      generalize xs[j]'(by rw [HN.out]; exact hlt) = x at hx
      obtain ⟨g, o, rfl, hC⟩ := HR.out j x hx
      have HX := hid hx
      clear hx
      have hgw := hC.lt
      obtain ⟨q0, q1, q2, q3, q4⟩ := hC.at_ (hB.block g hgw)
      have hsz := hBk.lt
      have HBk := hid hBk
      clear hBk
      go_wp2_with ((go_at_call 36; ((with_reducible refine (td _ _ _ _ _ _).mono ?_); rintro ee w1 ⟨rfl, hb1⟩; have hBk1 := hid (HBk.out.mono hb1); have fr1 := hBk1.out.fr; have hz1 := hBk1.out.lt; obtain ⟨p0, p1, p2, p3, p4⟩ := hBk1.out.cx (k := j) (x := z5) (fill_at HN.out hlt))))
      go_roundg m
      case measure => omega
      case rel =>
        refine ⟨j + 1, by omega, by go_num, ?_, ?_⟩
        · have h1 := hBk1.out.set x (k := j) (by rw [List.length_append, List.length_take, List.length_replicate, HN.out]; omega)
          rw [fill_set HN.out HX.out] at h1
          exact h1
        · exact set5_below (hB.trans (hb1.mono hB.size)) (Nat.le_refl _)

set_option maxRecDepth 100000 in
set_option maxHeartbeats 2000000 in
theorem eqs {A B : Option Addr} {n c d : Nat} {xs : List D5} {w : World} (hA : Rd w A xs) (hB : Rd w B xs) (hn : xs.length = n) (hb : n ≤ 1048576) :
    Calls Try.prog 82 #[.slice A n c, .slice B n d] w fun ee w' => ee = .returned (.bool true) ∧ Below w.heap.size w w' := by
  have HA := hid hA
  have HB := hid hB
  have HN := hid hn
  clear hA hB hn
  go_enter Try.func82, Try.ntmps82
  go_wp2_with (fail)
  go_loopg [5] n (fun k s1 wr => ∃ j : Nat, j + k = n ∧ s1 = .int .i64 (j : Int) ∧ Below w.heap.size w wr)
  case atStart => exact ⟨0, by omega, rfl, by (repeat' (first | (with_reducible exact Below.refl _ _) | (with_reducible assumption) | (with_reducible refine Below.alloc ?_ ?_ _) | (with_reducible refine Below.drew ?_) | (with_reducible refine below_drewN ?_ _) | (with_reducible refine Below.setCell ?_ ?_ _) | (with_reducible refine chain ?_ (by assumption) ?_) | omega | (simp; done) | (simp; omega)))⟩
  case round =>
    obtain ⟨j, hj, rfl, hB⟩ := hrel
    cases gk with
    | zero =>
      obtain rfl : j = n := by omega
      go_wp2_with (fail)
      go_ret
      exact ⟨rfl, hB⟩
    | succ m =>
      have hlt : j < n := by omega
      have hx : xs[j]? = some (xs[j]'(by rw [HN.out]; exact hlt)) := List.getElem?_eq_getElem _
      generalize xs[j]'(by rw [HN.out]; exact hlt) = x at hx
      obtain ⟨g, o, rfl, hC⟩ := HA.out j x hx
      obtain ⟨g', o', rfl, hC'⟩ := HB.out j x hx
      clear hx
      have hgw := hC.lt
      have hgw' := hC'.lt
      obtain ⟨q0, q1, q2, q3, q4⟩ := hC.at_ (hB.block g hgw)
      obtain ⟨p0, p1, p2, p3, p4⟩ := hC'.at_ (hB.block g' hgw')
      clear hC hC'
      go_wp2_with (fail)
      go_still_tail 8, (by kernel_rfl)
      change wpList _ _ _ _ _ wr.drew
      have hBd : Below w.heap.size w wr.drew := hB.drew
      generalize wr.drew = w2 at *
      go_wp2_with ((go_at_call 60; ((with_reducible refine (ed _ _ _ _ _ _).mono ?_); rintro ee w1 ⟨rfl, hb1⟩)))
      go_roundg m
      case measure => omega
      case rel => exact ⟨j + 1, by omega, by go_num, chain hBd hb1 hBd.size⟩

end Go.Proofs.Ytncgccpkbneagaa
namespace Go.Proofs.Ytncgccpkbneagaa
open Go.RowKit RM
set_option linter.unusedVariables false
set_option linter.unusedSimpArgs false
attribute [local irreducible] World.setCell

set_option maxRecDepth 100000 in
set_option maxHeartbeats 2000000 in
theorem szs_t {A : Option Addr} {n c : Nat} {k : Int} {w : World} (hn : (n : Int) ≤ k) (hk : k ≤ 1048576) :
    Calls Try.prog 80 #[.slice A n c, .int .i64 k] w fun ee w' => ee = .returned (.int .i64 (k - n)) ∧ Below w.heap.size w w' := by
  have h0 : ¬ (k - (n : Int) < 0) := by omega
  have h1 : 0 ≤ k - (n : Int) := by omega
  go_enter Try.func80, Try.ntmps80
  go_wp2_with (fail)
  go_ret
  exact ⟨rfl, by (repeat' (first | (with_reducible exact Below.refl _ _) | (with_reducible assumption) | (with_reducible refine Below.alloc ?_ ?_ _) | (with_reducible refine Below.drew ?_) | (with_reducible refine below_drewN ?_ _) | (with_reducible refine Below.setCell ?_ ?_ _) | (with_reducible refine chain ?_ (by assumption) ?_) | omega | (simp; done) | (simp; omega)))⟩

set_option maxRecDepth 100000 in
set_option maxHeartbeats 2000000 in
theorem szs_f {A : Option Addr} {n c : Nat} {k : Int} {w : World} (hn : k < (n : Int)) (hk : k ≤ 1048576) (h0 : 0 ≤ k) (hb : n ≤ maxLen) :
    Calls Try.prog 80 #[.slice A n c, .int .i64 k] w fun ee w' => ee = .returned (.int .i64 (-1)) ∧ Below w.heap.size w w' := by
  unfold maxLen at hb
  go_enter Try.func80, Try.ntmps80
  go_wp2_with (fail)
  go_ret
  exact ⟨rfl, by (repeat' (first | (with_reducible exact Below.refl _ _) | (with_reducible assumption) | (with_reducible refine Below.alloc ?_ ?_ _) | (with_reducible refine Below.drew ?_) | (with_reducible refine below_drewN ?_ _) | (with_reducible refine Below.setCell ?_ ?_ _) | (with_reducible refine chain ?_ (by assumption) ?_) | omega | (simp; done) | (simp; omega)))⟩

set_option maxRecDepth 100000 in
set_option maxHeartbeats 2000000 in
theorem mks_n {A : Option Addr} {c : Nat} {k : Int} {w : World} :
    Calls Try.prog 83 #[.slice A 0 c, .int .i64 k] w fun ee w' => ee = .returned (.int .i64 k) ∧ Below w.heap.size w w' := by
  go_enter Try.func83, Try.ntmps83
  go_wp2_with (fail)
  refine wp_loop_rounds 1 ?_
  rw [rounds_succ]; go_wp2_with (fail)
  go_ret
  exact ⟨rfl, by (repeat' (first | (with_reducible exact Below.refl _ _) | (with_reducible assumption) | (with_reducible refine Below.alloc ?_ ?_ _) | (with_reducible refine Below.drew ?_) | (with_reducible refine below_drewN ?_ _) | (with_reducible refine Below.setCell ?_ ?_ _) | (with_reducible refine chain ?_ (by assumption) ?_) | omega | (simp; done) | (simp; omega)))⟩

set_option maxRecDepth 100000 in
set_option maxHeartbeats 4000000 in
theorem mks_s {g n c : Nat} {k : Int} {xs : List D5} {w : World} (hB : Bk w g 37 xs) (hn : xs.length = n) (hb : n ≤ 1048576) (h0 : 0 ≤ k) (h1 : k ≤ 10000000) :
    Calls Try.prog 83 #[.slice (some ⟨g, 0, none⟩) n c, .int .i64 k] w fun ee w' => ee = .returned (.int .i64 (k + 5 * (n : Int))) ∧ Bk w' g 37 (mks k n) ∧ w.grownBy w' (some g) := by
  have HB := hid hB
  have HN := hid hn
  clear hB hn
  go_enter Try.func83, Try.ntmps83
  go_wp2_with (fail)
  go_loopg [1, 5] n (fun q s0 s1 wr => ∃ j : Nat, j + q = n ∧ s0 = .int .i64 (k + 5 * (j : Int)) ∧ s1 = .int .i64 (j : Int) ∧ Bk wr g 37 (mks k j ++ xs.drop j) ∧ w.grownBy wr (some g))
  case atStart => exact ⟨0, by omega, by first | (go_num; done) | simp, rfl, HB.out, grown_below (Below.refl _ _)⟩
  case round =>
    obtain ⟨j, hj, rfl, rfl, hBk, hG⟩ := hrel
    cases gk with
    | zero =>
      obtain rfl : j = n := by omega
      have HBk := hid hBk
      clear hBk
      go_wp2_with (fail)
      go_ret
      refine ⟨rfl, ?_, hG⟩
      have h1 := HBk.out
      rw [List.drop_of_length_le (by rw [HN.out]; exact Nat.le_refl _), List.append_nil] at h1
      exact h1
    | succ m =>
      have hlt : j < n := by omega
      have hl : j < xs.length := by rw [HN.out]; exact hlt
      obtain ⟨x, hx⟩ : ∃ x, xs[j]? = some x := ⟨_, List.getElem?_eq_getElem hl⟩
      obtain ⟨p0, p1, p2, p3, p4⟩ := hBk.cx (mks_at (k := k) hx)
      have HL := hid hl
      clear hx hl
      have fr := hBk.fr
      have hsz := hBk.lt
      have HBk := hid hBk
      clear hBk
      have b0 : 0 ≤ k + 5 * (j : Int) := by omega
      have b1 : k + 5 * (j : Int) ≤ 100000000 := by omega
      go_wp2_with (fail)
      go_roundg m
      case measure => omega
      case rel =>
        refine ⟨j + 1, by omega, by go_num, by go_num, ?_, ?_⟩
        · have h1 := HBk.out.set (mk1 k j) (k := j) (by rw [List.length_append, mks_len, List.length_drop]; have := HL.out; omega)
          rw [mks_set HL.out] at h1
          exact h1
        · exact grown_set5 (x := mk1 k j) (o := j * 5) hG

set_option maxRecDepth 100000 in
set_option maxHeartbeats 4000000 in
theorem hds {A : Option Addr} {n c : Nat} {k : Int} {w : World} (hA : Rd w A (mks k n)) (hb : n ≤ 1048576) (h0 : 0 ≤ k) (h1 : k ≤ 10000000) :
    Calls Try.prog 84 #[.slice A n c, .int .i64 k] w fun ee w' => ee = .returned (.int .i64 (k + 5 * (n : Int))) ∧ Below w.heap.size w w' := by
  have HA := hid hA
  clear hA
  go_enter Try.func84, Try.ntmps84
  go_wp2_with (fail)
  go_loopg [1, 5] n (fun q s0 s1 wr => ∃ j : Nat, j + q = n ∧ s0 = .int .i64 (k + 5 * (j : Int)) ∧ s1 = .int .i64 (j : Int) ∧ Below w.heap.size w wr)
  case atStart => exact ⟨0, by omega, by first | (go_num; done) | simp, rfl, by (repeat' (first | (with_reducible exact Below.refl _ _) | (with_reducible assumption) | (with_reducible refine Below.alloc ?_ ?_ _) | (with_reducible refine Below.drew ?_) | (with_reducible refine below_drewN ?_ _) | (with_reducible refine Below.setCell ?_ ?_ _) | (with_reducible refine chain ?_ (by assumption) ?_) | omega | (simp; done) | (simp; omega)))⟩
  case round =>
    obtain ⟨j, hj, rfl, rfl, hB⟩ := hrel
    cases gk with
    | zero =>
      obtain rfl : j = n := by omega
      go_wp2_with (fail)
      go_ret
      exact ⟨rfl, hB⟩
    | succ m =>
      have hlt : j < n := by omega
      obtain ⟨g, o, rfl, hC⟩ := HA.out j _ (mks_get k hlt)
      obtain ⟨q0, q1, q2, q3, q4⟩ := hC.at_ (hB.block g hC.lt)
      simp only [mk1] at q0 q1 q2 q3 q4
      clear hC
      have b0 : 0 ≤ k + 5 * (j : Int) := by omega
      have b1 : k + 5 * (j : Int) ≤ 100000000 := by omega
      go_wp2_with (fail)
      go_roundg m
      case measure => omega
      case rel => exact ⟨j + 1, by omega, by go_num, by go_num, hB⟩

end Go.Proofs.Ytncgccpkbneagaa
namespace Go.Proofs.Ytncgccpkbneagaa
open Go.RowKit RM
set_option linter.unusedVariables false
set_option linter.unusedSimpArgs false
attribute [local irreducible] World.setCell

/-- the value of a matrix; one and whether there is one -/
abbrev mv (r c : Int) (A : Option Addr) (n cp : Nat) : Value := .agg #[.int .i64 r, .int .i64 c, .slice A n cp]
abbrev mt (r c : Int) (A : Option Addr) (n cp : Nat) (ok : Bool) : Value := .tuple #[mv r c A n cp, .bool ok]

set_option maxRecDepth 100000 in
set_option maxHeartbeats 2000000 in
theorem szm_t {r c : Int} {A : Option Addr} {n cp : Nat} {k : Int} {w : World} (hn : (n : Int) ≤ k) (hk : k ≤ 1048576) :
    Calls Try.prog 28 #[mv r c A n cp, .int .i64 k] w fun ee w' => ee = .returned (.int .i64 (k - n)) ∧ Below w.heap.size w w' := by
  have h0 : ¬ (k - (n : Int) < 0) := by omega
  have h1 : 0 ≤ k - (n : Int) := by omega
  go_enter Try.func28, Try.ntmps28
  go_wp2_with ((go_at_call 80; ((with_reducible refine (szs_t hn hk).mono ?_); rintro ee w1 ⟨rfl, hb1⟩)))
  go_ret
  refine ⟨rfl, ?_⟩
  (repeat' (first | (with_reducible exact Below.refl _ _) | (with_reducible assumption) | (with_reducible refine Below.alloc ?_ ?_ _) | (with_reducible refine Below.drew ?_) | (with_reducible refine below_drewN ?_ _) | (with_reducible refine Below.setCell ?_ ?_ _) | (with_reducible refine chain ?_ (by assumption) ?_) | omega | (simp; done) | (simp; omega)))

set_option maxRecDepth 100000 in
set_option maxHeartbeats 2000000 in
theorem szm_f {r c : Int} {A : Option Addr} {n cp : Nat} {k : Int} {w : World} (hn : k < (n : Int)) (hk : k ≤ 1048576) (h0 : 0 ≤ k) (hb : n ≤ maxLen) :
    Calls Try.prog 28 #[mv r c A n cp, .int .i64 k] w fun ee w' => ee = .returned (.int .i64 (-1)) ∧ Below w.heap.size w w' := by
  go_enter Try.func28, Try.ntmps28
  go_wp2_with ((go_at_call 80; ((with_reducible refine (szs_f hn hk h0 hb).mono ?_); rintro ee w1 ⟨rfl, hb1⟩)))
  go_ret
  refine ⟨rfl, ?_⟩
  (repeat' (first | (with_reducible exact Below.refl _ _) | (with_reducible assumption) | (with_reducible refine Below.alloc ?_ ?_ _) | (with_reducible refine Below.drew ?_) | (with_reducible refine below_drewN ?_ _) | (with_reducible refine Below.setCell ?_ ?_ _) | (with_reducible refine chain ?_ (by assumption) ?_) | omega | (simp; done) | (simp; omega)))

set_option maxRecDepth 100000 in
set_option maxHeartbeats 2000000 in
theorem tm {r c : Int} {A : Option Addr} {n cp : Nat} {xs : List D5} {w : World} (hR : Rd w A xs) (hn : xs.length = n) (hb : n ≤ 1048576) :
    Calls Try.prog 29 #[mv r c A n cp] w fun ee w' => ∃ g, ee = .returned (mv r c (some ⟨g, 0, none⟩) n n) ∧ Bk w' g 37 xs ∧ w.heap.size ≤ g ∧ Below w.heap.size w w' := by
  have HR := hid hR
  have HN := hid hn
  clear hR hn
  go_enter Try.func29, Try.ntmps29
  go_wp2_with ((go_at_call 81; ((with_reducible refine (tds ?_ HN.out hb).mono ?_); (exact HR.out.mono (by (repeat' (first | (with_reducible exact Below.refl _ _) | (with_reducible assumption) | (with_reducible refine Below.alloc ?_ ?_ _) | (with_reducible refine Below.drew ?_) | (with_reducible refine below_drewN ?_ _) | (with_reducible refine Below.setCell ?_ ?_ _) | (with_reducible refine chain ?_ (by assumption) ?_) | omega | (simp; done) | (simp; omega))))); rintro ee w1 ⟨rfl, hB1, hb1⟩; simp only [World.size_alloc] at hB1; have HB1 := hid hB1; clear hB1; obtain ⟨hc1, hf1, _⟩ := bcell hb1; have hz1 := hb1.size; (try simp at hz1); (try have hx10 : w.heap.size < w1.heap.size := (by omega)); (try have hx11 : w.heap.size + 1 < w1.heap.size := (by omega)); (try have hx12 : w.heap.size + 1 + 1 < w1.heap.size := (by omega)); (try have hx13 : w.heap.size + 1 + 1 + 1 < w1.heap.size := (by omega)))))
  refine bodyPost_ret (v := mv r c (some ⟨w.heap.size + 1 + 1 + 1, 0, none⟩) n n) (by first | (simp [results, Try.results29, go_sem, *]; done) | (simp (disch := (first | omega | (simp; done) | (simp; omega))) [results, Try.results29, go_sem, *]; done)) rfl ⟨_, rfl, ?_, by omega, ?_⟩
  · refine HB1.out.at_ ?_
    (repeat (rw [Below.heap_setCell _ _ _ _ (by simp; try omega)]))
    try rfl
  · (repeat' (first | (with_reducible exact Below.refl _ _) | (with_reducible assumption) | (with_reducible refine Below.alloc ?_ ?_ _) | (with_reducible refine Below.drew ?_) | (with_reducible refine below_drewN ?_ _) | (with_reducible refine Below.setCell ?_ ?_ _) | (with_reducible refine chain ?_ (by assumption) ?_) | omega | (simp; done) | (simp; omega)))

set_option maxRecDepth 100000 in
set_option maxHeartbeats 2000000 in
theorem eqm {r c : Int} {A B : Option Addr} {n cp dp : Nat} {xs : List D5} {w : World} (hA : Rd w A xs) (hB : Rd w B xs) (hn : xs.length = n) (hb : n ≤ 1048576) :
    Calls Try.prog 30 #[mv r c A n cp, mv r c B n dp] w fun ee w' => ee = .returned (.bool true) ∧ Below w.heap.size w w' := by
  have HA := hid hA
  have HB := hid hB
  have HN := hid hn
  clear hA hB hn
  go_enter Try.func30, Try.ntmps30
  go_wp2_with ((go_at_call 82; ((with_reducible refine (eqs ?_ ?_ HN.out hb).mono ?_); (exact HA.out.mono (by (repeat' (first | (with_reducible exact Below.refl _ _) | (with_reducible assumption) | (with_reducible refine Below.alloc ?_ ?_ _) | (with_reducible refine Below.drew ?_) | (with_reducible refine below_drewN ?_ _) | (with_reducible refine Below.setCell ?_ ?_ _) | (with_reducible refine chain ?_ (by assumption) ?_) | omega | (simp; done) | (simp; omega))))); (exact HB.out.mono (by (repeat' (first | (with_reducible exact Below.refl _ _) | (with_reducible assumption) | (with_reducible refine Below.alloc ?_ ?_ _) | (with_reducible refine Below.drew ?_) | (with_reducible refine below_drewN ?_ _) | (with_reducible refine Below.setCell ?_ ?_ _) | (with_reducible refine chain ?_ (by assumption) ?_) | omega | (simp; done) | (simp; omega))))); rintro ee w1 ⟨rfl, hb1⟩)))
  go_ret
  refine ⟨rfl, ?_⟩
  (repeat' (first | (with_reducible exact Below.refl _ _) | (with_reducible assumption) | (with_reducible refine Below.alloc ?_ ?_ _) | (with_reducible refine Below.drew ?_) | (with_reducible refine below_drewN ?_ _) | (with_reducible refine Below.setCell ?_ ?_ _) | (with_reducible refine chain ?_ (by assumption) ?_) | omega | (simp; done) | (simp; omega)))

theorem mks_c {A : Option Addr} {B n c : Nat} {k : Int} {xs : List D5} {w : World} (hO : Ow w B 37 A xs) (hn : xs.length = n) (hb : n ≤ 1048576) (h0 : 0 ≤ k) (h1 : k ≤ 10000000) :
    Calls Try.prog 83 #[.slice A n c, .int .i64 k] w fun ee w' => ee = .returned (.int .i64 (k + 5 * (n : Int))) ∧ Ow w' B 37 A (mks k n) ∧ w.grownBy w' (blk A) := by
  rcases hO with ⟨rfl, rfl⟩ | ⟨g, rfl, hg, hB⟩
  · obtain rfl : n = 0 := hn.symm
    refine mks_n.mono ?_
    rintro ee w1 ⟨rfl, hb1⟩
    exact ⟨by simp, Or.inl ⟨rfl, rfl⟩, grown_below hb1⟩
  · refine (mks_s hB hn hb h0 h1).mono ?_
    rintro ee w1 ⟨rfl, hB1, hg1⟩
    exact ⟨rfl, Or.inr ⟨g, rfl, hg, hB1⟩, hg1⟩
theorem grown_alloc {w w' : World} {o : Obj} {row : Option Nat} (h : (w.alloc o).grownBy w' row) : w.grownBy w' row := grown_trans (World.grownBy_alloc w o row) h

set_option maxRecDepth 100000 in
set_option maxHeartbeats 2000000 in
theorem mkm {r c : Int} {A : Option Addr} {B n cp : Nat} {k : Int} {xs : List D5} {w : World} (hO : Ow w B 37 A xs) (hn : xs.length = n) (hb : n ≤ 1048576) (h0 : 0 ≤ k) (h1 : k ≤ 10000000) :
    Calls Try.prog 31 #[mv r c A n cp, .int .i64 k] w fun ee w' => ee = .returned (.int .i64 (k + 5 * (n : Int))) ∧ Ow w' B 37 A (mks k n) ∧ w.grownBy w' (blk A) := by
  have HO := hid hO
  have HN := hid hn
  clear hO hn
  go_enter Try.func31, Try.ntmps31
  go_wp2_with ((go_at_call 83; ((with_reducible refine (mks_c (B := B) ?_ HN.out hb h0 h1).mono ?_); (exact HO.out.mono (by (repeat' (first | (with_reducible exact Below.refl _ _) | (with_reducible assumption) | (with_reducible refine Below.alloc ?_ ?_ _) | (with_reducible refine Below.drew ?_) | (with_reducible refine below_drewN ?_ _) | (with_reducible refine Below.setCell ?_ ?_ _) | (with_reducible refine chain ?_ (by assumption) ?_) | omega | (simp; done) | (simp; omega))))); rintro ee w1 ⟨rfl, hO1, hg1⟩; have HO1 := hid hO1; have HG1 := hid hg1; clear hO1 hg1)))
  go_ret
  exact ⟨rfl, HO1.out, grown_alloc HG1.out⟩

set_option maxRecDepth 100000 in
set_option maxHeartbeats 2000000 in
theorem hdm {r c : Int} {A : Option Addr} {n cp : Nat} {k : Int} {w : World} (hA : Rd w A (mks k n)) (hb : n ≤ 1048576) (h0 : 0 ≤ k) (h1 : k ≤ 10000000) :
    Calls Try.prog 32 #[mv r c A n cp, .int .i64 k] w fun ee w' => ee = .returned (.int .i64 (k + 5 * (n : Int))) ∧ Below w.heap.size w w' := by
  have HA := hid hA
  clear hA
  have b0 : ¬ (k + 5 * (n : Int) < 0) := by omega
  go_enter Try.func32, Try.ntmps32
  go_wp2_with ((go_at_call 84; ((with_reducible refine (hds ?_ hb h0 h1).mono ?_); (exact HA.out.mono (by (repeat' (first | (with_reducible exact Below.refl _ _) | (with_reducible assumption) | (with_reducible refine Below.alloc ?_ ?_ _) | (with_reducible refine Below.drew ?_) | (with_reducible refine below_drewN ?_ _) | (with_reducible refine Below.setCell ?_ ?_ _) | (with_reducible refine chain ?_ (by assumption) ?_) | omega | (simp; done) | (simp; omega))))); rintro ee w1 ⟨rfl, hb1⟩)))
  go_ret
  refine ⟨rfl, ?_⟩
  (repeat' (first | (with_reducible exact Below.refl _ _) | (with_reducible assumption) | (with_reducible refine Below.alloc ?_ ?_ _) | (with_reducible refine Below.drew ?_) | (with_reducible refine below_drewN ?_ _) | (with_reducible refine Below.setCell ?_ ?_ _) | (with_reducible refine chain ?_ (by assumption) ?_) | omega | (simp; done) | (simp; omega)))

end Go.Proofs.Ytncgccpkbneagaa
