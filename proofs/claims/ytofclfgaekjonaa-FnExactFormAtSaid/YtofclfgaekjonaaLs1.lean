/- Contracts of what the laws call on slices of numbers: the copy, the comparison. -/
import Derived.Test.YtofclfgaekjonaaSl
import Derived.StillTailTactics
namespace Go.Proofs.Ytofclfgaekjonaa
open Go.RowKit RM
set_option linter.unusedVariables false
set_option linter.unusedSimpArgs false
attribute [local irreducible] World.setCell

theorem infoD : (Try.prog.info? 99).map (fun i => (i.zero, i.size, i.bytes)) = some (some (.agg #[.int .i64 0, .int .i64 0, .int .i64 0, .int .i64 0, .int .i64 0]), 5, 40) := by kernel_rfl
theorem mkD (n : Nat) (hn : n ≤ 1048576) (w : World) : (Instr.makeSlice 28 (.int .i64 (n : Int)) (.int .i64 (n : Int))).run Try.prog w = .ok (.slice (some ⟨w.heap.size, 0, none⟩) n n) (w.alloc (.cells (csL (List.replicate n z5)).toArray 99)) := by
  obtain ⟨i0, hi, hz0, hz1, hz2⟩ := info_parts infoD
  have := run_make (P := Try.prog) w 28 99 i0 _ Try.underlying28 hi hz0 .i64 .i64 n n (by omega) (Int.le_refl _) (by rw [hz2]; omega) (by omega)
  rw [this, hz1]
  simp only [Int.toNat_natCast, Value.cells, madeA]

set_option maxRecDepth 100000 in
set_option maxHeartbeats 2000000 in
theorem tds {A : Option Addr} {n c : Nat} {xs : List D5} {w : World} (hR : Rd w A xs) (hn : xs.length = n) (hb : n ≤ 1048576) :
    Calls Try.prog 59 #[.slice A n c] w fun ee w' => ee = .returned (.slice (some ⟨w.heap.size, 0, none⟩) n n) ∧ Bk w' w.heap.size 99 xs ∧ Below w.heap.size w w' := by
  have hmk := mkD n hb
  have HR := hid hR
  have HN := hid hn
  clear hR hn
  go_enter Try.func59, Try.ntmps59
  go_wp2_with (fail)
  go_loopg [4] n (fun k s1 wr => ∃ j : Nat, j + k = n ∧ s1 = .int .i64 (j : Int) ∧ Bk wr w.heap.size 99 (xs.take j ++ List.replicate (n - j) z5) ∧ Below w.heap.size w wr)
  case atStart => exact ⟨0, by omega, rfl, Bk.made _ _ _, by (repeat' (first | (with_reducible exact Below.refl _ _) | (with_reducible assumption) | (with_reducible refine Below.alloc ?_ ?_ _) | (with_reducible refine Below.drew ?_) | (with_reducible refine below_drewN ?_ _) | (with_reducible refine Below.setCell ?_ ?_ _) | (with_reducible refine chain ?_ (by assumption) ?_) | omega | (simp; done) | (simp; omega)))⟩
  case round =>
    obtain ⟨j, hj, rfl, hBk, hB⟩ := hrel
    cases gk with
    | zero =>
      obtain rfl : j = n := by omega
      have HBk := hid hBk
      clear hBk
      go_wp2_with (fail)
      go_ret
      refine ⟨rfl, ?_, hB⟩
      have h1 := HBk.out
      rw [Nat.sub_self, List.replicate_zero, List.append_nil, List.take_of_length_le (by rw [HN.out]; exact Nat.le_refl _)] at h1
      exact h1
    | succ m =>
      have hlt : j < n := by omega
      have hx : xs[j]? = some (xs[j]'(by rw [HN.out]; exact hlt)) := List.getElem?_eq_getElem _
      generalize xs[j]'(by rw [HN.out]; exact hlt) = x at hx
      obtain ⟨g, o, rfl, hC⟩ := HR.out j x hx
      have HX := hid hx
      clear hx
      have hgw := hC.lt
      obtain ⟨q0, q1, q2, q3, q4⟩ := hC.at_ (hB.block g hgw)
      have hsz := hBk.lt
      have HBk := hid hBk
      clear hBk
      go_wp2_with ((go_at_call 109; ((with_reducible refine (td _ _ _ _ _ _).mono ?_); rintro ee w1 ⟨rfl, hb1⟩; have hBk1 := hid (HBk.out.mono hb1); have fr1 := hBk1.out.fr; have hz1 := hBk1.out.lt; obtain ⟨p0, p1, p2, p3, p4⟩ := hBk1.out.cx (k := j) (x := z5) (fill_at HN.out hlt))))
      go_roundg m
      case measure => omega
      case rel =>
        refine ⟨j + 1, by omega, by go_num, ?_, ?_⟩
        · have h1 := hBk1.out.set x (k := j) (by rw [List.length_append, List.length_take, List.length_replicate, HN.out]; omega)
          rw [fill_set HN.out HX.out] at h1
          exact h1
        · exact set5_below (hB.trans (hb1.mono hB.size)) (Nat.le_refl _)

set_option maxRecDepth 100000 in
set_option maxHeartbeats 2000000 in
theorem eqs {A B : Option Addr} {n c d : Nat} {xs : List D5} {w : World} (hA : Rd w A xs) (hB : Rd w B xs) (hn : xs.length = n) (hb : n ≤ 1048576) :
    Calls Try.prog 62 #[.slice A n c, .slice B n d] w fun ee w' => ee = .returned (.bool true) ∧ Below w.heap.size w w' := by
  have HA := hid hA
  have HB := hid hB
  have HN := hid hn
  clear hA hB hn
  go_enter Try.func62, Try.ntmps62
  go_wp2_with (fail)
  go_loopg [5] n (fun k s1 wr => ∃ j : Nat, j + k = n ∧ s1 = .int .i64 (j : Int) ∧ Below w.heap.size w wr)
  case atStart => exact ⟨0, by omega, rfl, by (repeat' (first | (with_reducible exact Below.refl _ _) | (with_reducible assumption) | (with_reducible refine Below.alloc ?_ ?_ _) | (with_reducible refine Below.drew ?_) | (with_reducible refine below_drewN ?_ _) | (with_reducible refine Below.setCell ?_ ?_ _) | (with_reducible refine chain ?_ (by assumption) ?_) | omega | (simp; done) | (simp; omega)))⟩
  case round =>
    obtain ⟨j, hj, rfl, hB⟩ := hrel
    cases gk with
    | zero =>
      obtain rfl : j = n := by omega
      go_wp2_with (fail)
      go_ret
      exact ⟨rfl, hB⟩
    | succ m =>
      have hlt : j < n := by omega
      have hx : xs[j]? = some (xs[j]'(by rw [HN.out]; exact hlt)) := List.getElem?_eq_getElem _
      generalize xs[j]'(by rw [HN.out]; exact hlt) = x at hx
      obtain ⟨g, o, rfl, hC⟩ := HA.out j x hx
      obtain ⟨g', o', rfl, hC'⟩ := HB.out j x hx
      clear hx
      have hgw := hC.lt
      have hgw' := hC'.lt
      obtain ⟨q0, q1, q2, q3, q4⟩ := hC.at_ (hB.block g hgw)
      obtain ⟨p0, p1, p2, p3, p4⟩ := hC'.at_ (hB.block g' hgw')
      clear hC hC'
      go_wp2_with (fail)
      go_still_tail 8, (by kernel_rfl)
      change wpList _ _ _ _ _ wr.drew
      have hBd : Below w.heap.size w wr.drew := hB.drew
      generalize wr.drew = w2 at *
      go_wp2_with ((go_at_call 111; ((with_reducible refine (ed _ _ _ _ _ _).mono ?_); rintro ee w1 ⟨rfl, hb1⟩)))
      go_roundg m
      case measure => omega
      case rel => exact ⟨j + 1, by omega, by go_num, chain hBd hb1 hBd.size⟩

end Go.Proofs.Ytofclfgaekjonaa
