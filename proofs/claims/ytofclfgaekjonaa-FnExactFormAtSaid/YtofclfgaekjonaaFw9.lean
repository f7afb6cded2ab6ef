/- FormAt: the law. -/
import Derived.Test.YtofclfgaekjonaaFi9
namespace Go.Proofs.Ytofclfgaekjonaa
open Go.RowKit RM
set_option linter.unusedVariables false
set_option linter.unusedSimpArgs false
attribute [local irreducible] World.setCell

set_option maxRecDepth 100000 in
set_option maxHeartbeats 4000000 in
theorem eqf {s : ByteArray} {c p : Int} {w : World} :
    Calls Try.prog 49 #[fmv s c p, fmv s c p] w fun ee w' => ee = .returned (.bool true) ∧ Below w.heap.size w w' := by
  go_enter Try.func49, Try.ntmps49
  go_wp2_with (fail)
  go_ret
  refine ⟨rfl, ?_⟩
  (repeat' (first | (with_reducible exact Below.refl _ _) | (with_reducible assumption) | (with_reducible refine Below.alloc ?_ ?_ _) | (with_reducible refine Below.drew ?_) | (with_reducible refine below_drewN ?_ _) | (with_reducible refine Below.setCell ?_ ?_ _) | (with_reducible refine chain ?_ (by assumption) ?_) | omega | (simp; done) | (simp; omega)))

set_option maxRecDepth 100000 in
set_option maxHeartbeats 4000000 in
theorem lwFormAt {n k : Int} {s : ByteArray} {c p : Int} {ok : Bool} {w : World} (hS : ∀ w : World, Calls Try.prog 47 #[.int .i64 n, .int .i64 k] w fun ee w' => ee = .returned (.tuple #[fmv s c p, .bool ok]) ∧ Below w.heap.size w w') (hI : ∀ w : World, Calls Try.prog 48 #[.int .i64 n, .int .i64 k] w fun ee w' => ee = .returned (.tuple #[fmv s c p, .bool ok]) ∧ Below w.heap.size w w') :
    Calls Try.prog 12 #[.int .i64 n, .int .i64 k] w fun ee w' => ee = .returned (.bool true) ∧ Below w.heap.size w w' := by
  have HS := hid hS
  have HI := hid hI
  clear hS hI
  go_enter Try.func12, Try.ntmps12
  go_wp2_with (fail)
  refine (HS.out _).mono ?_
  rintro ee w1 ⟨rfl, hb1⟩
  have hL1 : Below w.heap.size w w1 := by (repeat' (first | (with_reducible exact Below.refl _ _) | (with_reducible assumption) | (with_reducible refine Below.alloc ?_ ?_ _) | (with_reducible refine Below.drew ?_) | (with_reducible refine below_drewN ?_ _) | (with_reducible refine Below.setCell ?_ ?_ _) | (with_reducible refine chain ?_ (by assumption) ?_) | omega | (simp; done) | (simp; omega)))
  have hz1 := hb1.size
  (try simp only [World.size_alloc] at hz1)
  have hB1 : Below w.heap.size w w1 := hL1
  clear hb1 hL1
  go_wp2_with (fail)
  refine (HI.out _).mono ?_
  rintro ee w2 ⟨rfl, hb2⟩
  have hL2 : Below w1.heap.size w1 w2 := by (repeat' (first | (with_reducible exact Below.refl _ _) | (with_reducible assumption) | (with_reducible refine Below.alloc ?_ ?_ _) | (with_reducible refine Below.drew ?_) | (with_reducible refine below_drewN ?_ _) | (with_reducible refine Below.setCell ?_ ?_ _) | (with_reducible refine chain ?_ (by assumption) ?_) | omega | (simp; done) | (simp; omega)))
  have hz2 := hb2.size
  (try simp only [World.size_alloc] at hz2)
  have hB2 : Below w.heap.size w w2 := chain hB1 hL2 hB1.size
  have k2_0_0 : w2.cell? ⟨w1.heap.size, 0, none⟩ = some (.string s) := (hb2.cell (p := ⟨w1.heap.size, 0, none⟩) (by show w1.heap.size < _; (try simp only [World.size_alloc]); omega)).trans (by first | rfl | (simp; done) | (simp [*]; done))
  have k2_0_1 : w2.cell? ⟨w1.heap.size, 1, none⟩ = some (.int .i64 c) := (hb2.cell (p := ⟨w1.heap.size, 1, none⟩) (by show w1.heap.size < _; (try simp only [World.size_alloc]); omega)).trans (by first | rfl | (simp; done) | (simp [*]; done))
  have k2_0_2 : w2.cell? ⟨w1.heap.size, 2, none⟩ = some (.int .i64 p) := (hb2.cell (p := ⟨w1.heap.size, 2, none⟩) (by show w1.heap.size < _; (try simp only [World.size_alloc]); omega)).trans (by first | rfl | (simp; done) | (simp [*]; done))
  have bl2_0 : w1.heap.size < w2.heap.size := World.block_lt_of_cell? _ _ k2_0_0
  clear hb2 hL2
  go_wp2_with (fail)
  refine (eqf).mono ?_
  rintro ee w3 ⟨rfl, hb3⟩
  have hL3 : Below w2.heap.size w2 w3 := by (repeat' (first | (with_reducible exact Below.refl _ _) | (with_reducible assumption) | (with_reducible refine Below.alloc ?_ ?_ _) | (with_reducible refine Below.drew ?_) | (with_reducible refine below_drewN ?_ _) | (with_reducible refine Below.setCell ?_ ?_ _) | (with_reducible refine chain ?_ (by assumption) ?_) | omega | (simp; done) | (simp; omega)))
  have hz3 := hb3.size
  (try simp only [World.size_alloc] at hz3)
  have hB3 : Below w.heap.size w w3 := chain hB2 hL3 hB2.size
  have k3_0_0 : w3.cell? ⟨w1.heap.size, 0, none⟩ = some (.string s) := (hL3.cell (p := ⟨w1.heap.size, 0, none⟩) (by show w1.heap.size < w2.heap.size; omega)).trans k2_0_0
  have k3_0_1 : w3.cell? ⟨w1.heap.size, 1, none⟩ = some (.int .i64 c) := (hL3.cell (p := ⟨w1.heap.size, 1, none⟩) (by show w1.heap.size < w2.heap.size; omega)).trans k2_0_1
  have k3_0_2 : w3.cell? ⟨w1.heap.size, 2, none⟩ = some (.int .i64 p) := (hL3.cell (p := ⟨w1.heap.size, 2, none⟩) (by show w1.heap.size < w2.heap.size; omega)).trans k2_0_2
  have k3_1_0 : w3.cell? ⟨w2.heap.size, 0, none⟩ = some (.string s) := (hb3.cell (p := ⟨w2.heap.size, 0, none⟩) (by show w2.heap.size < _; (try simp only [World.size_alloc]); omega)).trans (by first | rfl | (simp; done) | (simp [*]; done))
  have k3_1_1 : w3.cell? ⟨w2.heap.size, 1, none⟩ = some (.int .i64 c) := (hb3.cell (p := ⟨w2.heap.size, 1, none⟩) (by show w2.heap.size < _; (try simp only [World.size_alloc]); omega)).trans (by first | rfl | (simp; done) | (simp [*]; done))
  have k3_1_2 : w3.cell? ⟨w2.heap.size, 2, none⟩ = some (.int .i64 p) := (hb3.cell (p := ⟨w2.heap.size, 2, none⟩) (by show w2.heap.size < _; (try simp only [World.size_alloc]); omega)).trans (by first | rfl | (simp; done) | (simp [*]; done))
  have bl3_0 : w1.heap.size < w3.heap.size := World.block_lt_of_cell? _ _ k3_0_0
  have bl3_1 : w2.heap.size < w3.heap.size := World.block_lt_of_cell? _ _ k3_1_0
  clear hb3 hL3
  clear k2_0_0 k2_0_1 k2_0_2
  cases ok
  all_goals (go_wp2_with (fail); go_ret; exact ⟨rfl, hB3⟩)

theorem fnExactFormAt_walk {n k : Int} {w : World} :
    Calls Try.prog 12 #[.int .i64 n, .int .i64 k] w fun ee w' => ee = .returned (.bool true) ∧ Below w.heap.size w w' := by
  by_cases hn : 0 ≤ n ∧ n ≤ 20
  · obtain ⟨m, rfl⟩ : ∃ m : Nat, n = (m : Int) := ⟨n.toNat, by omega⟩
    have hm : m ≤ 20 := by omega
    by_cases hk0 : k < 0
    · exact lwFormAt (s := ByteArray.mk #[]) (c := 0) (p := 0) (ok := false) (fun w => fs_f2 hm (Or.inl hk0) w) (fun w => fi_f2a hm hk0 w)
    · by_cases hk1 : cntI m ≤ k
      · exact lwFormAt (s := ByteArray.mk #[]) (c := 0) (p := 0) (ok := false) (fun w => fs_f2 hm (Or.inr hk1) w) (fun w => fi_f2b hm hk1 w)
      · obtain ⟨j, rfl⟩ : ∃ j : Nat, k = (j : Int) := ⟨k.toNat, by omega⟩
        exact lwFormAt (ok := true) (fun w => fs_t hm (by omega) rfl w) (fun w => fi_t hm (by omega) rfl w)
  · exact lwFormAt (s := ByteArray.mk #[]) (c := 0) (p := 0) (ok := false) (fun w => fs_f1 (by omega) w) (fun w => fi_f1 (by omega) w)


end Go.Proofs.Ytofclfgaekjonaa
