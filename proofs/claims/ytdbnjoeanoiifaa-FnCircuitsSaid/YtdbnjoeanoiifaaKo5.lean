/- The program's Concat. -/
import Derived.Test.YtdbnjoeanoiifaaKo4
import Derived.Test.YtdbnjoeanoiifaaGm
namespace Go.Proofs.Ytdbnjoeanoiifaa
open Go.RowKit
set_option linter.unusedVariables false
set_option linter.unusedSimpArgs false
attribute [local irreducible] World.setCell

set_option maxRecDepth 100000 in
set_option maxHeartbeats 4000000 in
theorem iConcat_a {a0 b0 : Int} {Ag Ah : Option Addr} {n1 c1 m1 d1 : Nat} {xs ys : List GateV} {w : World} (hA : Rd gateE w Ag xs) (hPA : Pl Ag n1 c1) (hB : Rd gateE w Ah ys) (hPB : Pl Ah m1 d1) (hn : xs.length = n1) (hm : ys.length = m1) (hmn : n1 ≤ maxLen) (hmm : m1 ≤ maxLen) (ho : okC a0 n1 xs = false) :
    Calls Try.prog 17 #[circuitV a0 Ag n1 c1, circuitV b0 Ah m1 d1] w fun ee w' => ee = .returned (.tuple #[circuitV 0 none 0 0, .bool false]) ∧ Below w.heap.size w w' := by
  have HPA := lay hPA
  have HPB := lay hPB
  clear hPA hPB
  have HO := lay ho
  clear ho
  have HA := lay hA
  have HB := lay hB
  have HN := lay hn
  have HM := lay hm
  clear hA hB hn hm
  go_enter Try.func17, Try.ntmps17
  go_wp2_with (fail)
  refine (vci (xs := xs) HO.out ?_ HN.out hmn).mono ?_
  · exact HA.out.mono (by (repeat' (first | (with_reducible exact Below.refl _ _) | (with_reducible assumption) | (with_reducible refine Below.alloc ?_ ?_ _) | (with_reducible refine Below.drew ?_) | (with_reducible refine bdN ?_ _) | (with_reducible refine Below.setCell ?_ ?_ _) | (with_reducible refine chn ?_ (by assumption) ?_) | omega | (simp; done) | (simp; omega))))
  rintro ee w1 ⟨rfl, hb1⟩
  have hz1 := hb1.size
  (try simp only [World.size_alloc] at hz1)
  have k1_0_0 : w1.cell? ⟨w.heap.size, 0, none⟩ = some (.int .i64 a0) := (hb1.cell (p := ⟨w.heap.size, 0, none⟩) (by show w.heap.size < _; (try simp only [World.size_alloc]); omega)).trans (by first | rfl | (simp; done) | (simp [*]; done) | (repeat (first | (simp; done) | (refine Bb.c (Bb.new ?_) _ rfl; (simp; done)) | refine kclAl ?_)))
  have k1_0_1 : w1.cell? ⟨w.heap.size, 1, none⟩ = some (.slice Ag n1 c1) := (hb1.cell (p := ⟨w.heap.size, 1, none⟩) (by show w.heap.size < _; (try simp only [World.size_alloc]); omega)).trans (by first | rfl | (simp; done) | (simp [*]; done) | (repeat (first | (simp; done) | (refine Bb.c (Bb.new ?_) _ rfl; (simp; done)) | refine kclAl ?_)))
  have r1_0 : ∀ o, w1.frozen? ⟨w.heap.size, o, none⟩ = false := fun o => (hb1.frozen (p := ⟨w.heap.size, o, none⟩) (by show w.heap.size < _; (try simp only [World.size_alloc]); omega)).trans (by first | rfl | (simp; done) | (simp [*]; done) | (repeat (first | (simp; done) | (refine Bb.f (Bb.new ?_) _; (simp; done)) | refine frAl (by (try simp only [World.size_alloc]); omega) ?_)))
  have b1_0 : w.heap.size < w1.heap.size := World.block_lt_of_cell? _ _ k1_0_0
  have k1_1_0 : w1.cell? ⟨w.heap.size + 1, 0, none⟩ = some (.int .i64 b0) := (hb1.cell (p := ⟨w.heap.size + 1, 0, none⟩) (by show w.heap.size + 1 < _; (try simp only [World.size_alloc]); omega)).trans (by first | rfl | (simp; done) | (simp [*]; done) | (repeat (first | (simp; done) | (refine Bb.c (Bb.new ?_) _ rfl; (simp; done)) | refine kclAl ?_)))
  have k1_1_1 : w1.cell? ⟨w.heap.size + 1, 1, none⟩ = some (.slice Ah m1 d1) := (hb1.cell (p := ⟨w.heap.size + 1, 1, none⟩) (by show w.heap.size + 1 < _; (try simp only [World.size_alloc]); omega)).trans (by first | rfl | (simp; done) | (simp [*]; done) | (repeat (first | (simp; done) | (refine Bb.c (Bb.new ?_) _ rfl; (simp; done)) | refine kclAl ?_)))
  have r1_1 : ∀ o, w1.frozen? ⟨w.heap.size + 1, o, none⟩ = false := fun o => (hb1.frozen (p := ⟨w.heap.size + 1, o, none⟩) (by show w.heap.size + 1 < _; (try simp only [World.size_alloc]); omega)).trans (by first | rfl | (simp; done) | (simp [*]; done) | (repeat (first | (simp; done) | (refine Bb.f (Bb.new ?_) _; (simp; done)) | refine frAl (by (try simp only [World.size_alloc]); omega) ?_)))
  have b1_1 : w.heap.size + 1 < w1.heap.size := World.block_lt_of_cell? _ _ k1_1_0
  have k1_2_0 : w1.cell? ⟨w.heap.size + 1 + 1, 0, none⟩ = some (.int .i64 0) := (hb1.cell (p := ⟨w.heap.size + 1 + 1, 0, none⟩) (by show w.heap.size + 1 + 1 < _; (try simp only [World.size_alloc]); omega)).trans (by first | rfl | (simp; done) | (simp [*]; done) | (repeat (first | (simp; done) | (refine Bb.c (Bb.new ?_) _ rfl; (simp; done)) | refine kclAl ?_)))
  have k1_2_1 : w1.cell? ⟨w.heap.size + 1 + 1, 1, none⟩ = some (.slice none 0 0) := (hb1.cell (p := ⟨w.heap.size + 1 + 1, 1, none⟩) (by show w.heap.size + 1 + 1 < _; (try simp only [World.size_alloc]); omega)).trans (by first | rfl | (simp; done) | (simp [*]; done) | (repeat (first | (simp; done) | (refine Bb.c (Bb.new ?_) _ rfl; (simp; done)) | refine kclAl ?_)))
  have r1_2 : ∀ o, w1.frozen? ⟨w.heap.size + 1 + 1, o, none⟩ = false := fun o => (hb1.frozen (p := ⟨w.heap.size + 1 + 1, o, none⟩) (by show w.heap.size + 1 + 1 < _; (try simp only [World.size_alloc]); omega)).trans (by first | rfl | (simp; done) | (simp [*]; done) | (repeat (first | (simp; done) | (refine Bb.f (Bb.new ?_) _; (simp; done)) | refine frAl (by (try simp only [World.size_alloc]); omega) ?_)))
  have b1_2 : w.heap.size + 1 + 1 < w1.heap.size := World.block_lt_of_cell? _ _ k1_2_0
  have hW1 : Below w.heap.size w w1 := by (repeat' (first | (with_reducible exact Below.refl _ _) | (with_reducible assumption) | (with_reducible refine Below.alloc ?_ ?_ _) | (with_reducible refine Below.drew ?_) | (with_reducible refine bdN ?_ _) | (with_reducible refine Below.setCell ?_ ?_ _) | (with_reducible refine chn ?_ (by assumption) ?_) | omega | (simp; done) | (simp; omega)))
  have hy1 := hW1.size
  clear hb1
  go_wp2_with (fail)
  refine bodyPost_ret (v := .tuple #[circuitV 0 none 0 0, .bool false]) (by first | (simp [results, Try.results17, go_sem, *]; done) | (simp (disch := (first | omega | (simp; done) | (simp; omega))) [results, Try.results17, go_sem, *]; done) | (simp only [results, Try.results17]; go_simp; done)) rfl ⟨rfl, ?_⟩
  (repeat' (first | (with_reducible exact Below.refl _ _) | (with_reducible assumption) | (with_reducible refine Below.alloc ?_ ?_ _) | (with_reducible refine Below.drew ?_) | (with_reducible refine bdN ?_ _) | (with_reducible refine Below.setCell ?_ ?_ _) | (with_reducible refine chn ?_ (by assumption) ?_) | omega | (simp; done) | (simp; omega)))

set_option maxRecDepth 100000 in
set_option maxHeartbeats 4000000 in
theorem iConcat_b {a0 b0 : Int} {Ag Ah : Option Addr} {n1 c1 m1 d1 : Nat} {xs ys : List GateV} {w : World} (hA : Rd gateE w Ag xs) (hPA : Pl Ag n1 c1) (hB : Rd gateE w Ah ys) (hPB : Pl Ah m1 d1) (hn : xs.length = n1) (hm : ys.length = m1) (hmn : n1 ≤ maxLen) (hmm : m1 ≤ maxLen) (ho : okC a0 n1 xs = true) (hp : okC b0 m1 ys = false) :
    Calls Try.prog 17 #[circuitV a0 Ag n1 c1, circuitV b0 Ah m1 d1] w fun ee w' => ee = .returned (.tuple #[circuitV 0 none 0 0, .bool false]) ∧ Below w.heap.size w w' := by
  have HPA := lay hPA
  have HPB := lay hPB
  clear hPA hPB
  have HO := lay ho
  have HP := lay hp
  clear ho hp
  have HA := lay hA
  have HB := lay hB
  have HN := lay hn
  have HM := lay hm
  clear hA hB hn hm
  go_enter Try.func17, Try.ntmps17
  go_wp2_with (fail)
  refine (vci (xs := xs) HO.out ?_ HN.out hmn).mono ?_
  · exact HA.out.mono (by (repeat' (first | (with_reducible exact Below.refl _ _) | (with_reducible assumption) | (with_reducible refine Below.alloc ?_ ?_ _) | (with_reducible refine Below.drew ?_) | (with_reducible refine bdN ?_ _) | (with_reducible refine Below.setCell ?_ ?_ _) | (with_reducible refine chn ?_ (by assumption) ?_) | omega | (simp; done) | (simp; omega))))
  rintro ee w1 ⟨rfl, hb1⟩
  have hz1 := hb1.size
  (try simp only [World.size_alloc] at hz1)
  have k1_0_0 : w1.cell? ⟨w.heap.size, 0, none⟩ = some (.int .i64 a0) := (hb1.cell (p := ⟨w.heap.size, 0, none⟩) (by show w.heap.size < _; (try simp only [World.size_alloc]); omega)).trans (by first | rfl | (simp; done) | (simp [*]; done) | (repeat (first | (simp; done) | (refine Bb.c (Bb.new ?_) _ rfl; (simp; done)) | refine kclAl ?_)))
  have k1_0_1 : w1.cell? ⟨w.heap.size, 1, none⟩ = some (.slice Ag n1 c1) := (hb1.cell (p := ⟨w.heap.size, 1, none⟩) (by show w.heap.size < _; (try simp only [World.size_alloc]); omega)).trans (by first | rfl | (simp; done) | (simp [*]; done) | (repeat (first | (simp; done) | (refine Bb.c (Bb.new ?_) _ rfl; (simp; done)) | refine kclAl ?_)))
  have r1_0 : ∀ o, w1.frozen? ⟨w.heap.size, o, none⟩ = false := fun o => (hb1.frozen (p := ⟨w.heap.size, o, none⟩) (by show w.heap.size < _; (try simp only [World.size_alloc]); omega)).trans (by first | rfl | (simp; done) | (simp [*]; done) | (repeat (first | (simp; done) | (refine Bb.f (Bb.new ?_) _; (simp; done)) | refine frAl (by (try simp only [World.size_alloc]); omega) ?_)))
  have b1_0 : w.heap.size < w1.heap.size := World.block_lt_of_cell? _ _ k1_0_0
  have k1_1_0 : w1.cell? ⟨w.heap.size + 1, 0, none⟩ = some (.int .i64 b0) := (hb1.cell (p := ⟨w.heap.size + 1, 0, none⟩) (by show w.heap.size + 1 < _; (try simp only [World.size_alloc]); omega)).trans (by first | rfl | (simp; done) | (simp [*]; done) | (repeat (first | (simp; done) | (refine Bb.c (Bb.new ?_) _ rfl; (simp; done)) | refine kclAl ?_)))
  have k1_1_1 : w1.cell? ⟨w.heap.size + 1, 1, none⟩ = some (.slice Ah m1 d1) := (hb1.cell (p := ⟨w.heap.size + 1, 1, none⟩) (by show w.heap.size + 1 < _; (try simp only [World.size_alloc]); omega)).trans (by first | rfl | (simp; done) | (simp [*]; done) | (repeat (first | (simp; done) | (refine Bb.c (Bb.new ?_) _ rfl; (simp; done)) | refine kclAl ?_)))
  have r1_1 : ∀ o, w1.frozen? ⟨w.heap.size + 1, o, none⟩ = false := fun o => (hb1.frozen (p := ⟨w.heap.size + 1, o, none⟩) (by show w.heap.size + 1 < _; (try simp only [World.size_alloc]); omega)).trans (by first | rfl | (simp; done) | (simp [*]; done) | (repeat (first | (simp; done) | (refine Bb.f (Bb.new ?_) _; (simp; done)) | refine frAl (by (try simp only [World.size_alloc]); omega) ?_)))
  have b1_1 : w.heap.size + 1 < w1.heap.size := World.block_lt_of_cell? _ _ k1_1_0
  have k1_2_0 : w1.cell? ⟨w.heap.size + 1 + 1, 0, none⟩ = some (.int .i64 0) := (hb1.cell (p := ⟨w.heap.size + 1 + 1, 0, none⟩) (by show w.heap.size + 1 + 1 < _; (try simp only [World.size_alloc]); omega)).trans (by first | rfl | (simp; done) | (simp [*]; done) | (repeat (first | (simp; done) | (refine Bb.c (Bb.new ?_) _ rfl; (simp; done)) | refine kclAl ?_)))
  have k1_2_1 : w1.cell? ⟨w.heap.size + 1 + 1, 1, none⟩ = some (.slice none 0 0) := (hb1.cell (p := ⟨w.heap.size + 1 + 1, 1, none⟩) (by show w.heap.size + 1 + 1 < _; (try simp only [World.size_alloc]); omega)).trans (by first | rfl | (simp; done) | (simp [*]; done) | (repeat (first | (simp; done) | (refine Bb.c (Bb.new ?_) _ rfl; (simp; done)) | refine kclAl ?_)))
  have r1_2 : ∀ o, w1.frozen? ⟨w.heap.size + 1 + 1, o, none⟩ = false := fun o => (hb1.frozen (p := ⟨w.heap.size + 1 + 1, o, none⟩) (by show w.heap.size + 1 + 1 < _; (try simp only [World.size_alloc]); omega)).trans (by first | rfl | (simp; done) | (simp [*]; done) | (repeat (first | (simp; done) | (refine Bb.f (Bb.new ?_) _; (simp; done)) | refine frAl (by (try simp only [World.size_alloc]); omega) ?_)))
  have b1_2 : w.heap.size + 1 + 1 < w1.heap.size := World.block_lt_of_cell? _ _ k1_2_0
  have hW1 : Below w.heap.size w w1 := by (repeat' (first | (with_reducible exact Below.refl _ _) | (with_reducible assumption) | (with_reducible refine Below.alloc ?_ ?_ _) | (with_reducible refine Below.drew ?_) | (with_reducible refine bdN ?_ _) | (with_reducible refine Below.setCell ?_ ?_ _) | (with_reducible refine chn ?_ (by assumption) ?_) | omega | (simp; done) | (simp; omega)))
  have hy1 := hW1.size
  clear hb1
  go_wp2_with (fail)
  refine (vci (xs := ys) HP.out ?_ HM.out hmm).mono ?_
  · exact HB.out.mono (by (repeat' (first | (with_reducible exact Below.refl _ _) | (with_reducible assumption) | (with_reducible refine Below.alloc ?_ ?_ _) | (with_reducible refine Below.drew ?_) | (with_reducible refine bdN ?_ _) | (with_reducible refine Below.setCell ?_ ?_ _) | (with_reducible refine chn ?_ (by assumption) ?_) | omega | (simp; done) | (simp; omega))))
  rintro ee w2 ⟨rfl, hb2⟩
  have hz2 := hb2.size
  (try simp only [World.size_alloc] at hz2)
  have k2_0_0 : w2.cell? ⟨w.heap.size, 0, none⟩ = some (.int .i64 a0) := (hb2.cell (p := ⟨w.heap.size, 0, none⟩) (by show w.heap.size < _; omega)).trans k1_0_0
  have k2_0_1 : w2.cell? ⟨w.heap.size, 1, none⟩ = some (.slice Ag n1 c1) := (hb2.cell (p := ⟨w.heap.size, 1, none⟩) (by show w.heap.size < _; omega)).trans k1_0_1
  have r2_0 : ∀ o, w2.frozen? ⟨w.heap.size, o, none⟩ = false := fun o => (hb2.frozen (p := ⟨w.heap.size, o, none⟩) (by show w.heap.size < _; omega)).trans (r1_0 o)
  have b2_0 : w.heap.size < w2.heap.size := World.block_lt_of_cell? _ _ k2_0_0
  have k2_1_0 : w2.cell? ⟨w.heap.size + 1, 0, none⟩ = some (.int .i64 b0) := (hb2.cell (p := ⟨w.heap.size + 1, 0, none⟩) (by show w.heap.size + 1 < _; omega)).trans k1_1_0
  have k2_1_1 : w2.cell? ⟨w.heap.size + 1, 1, none⟩ = some (.slice Ah m1 d1) := (hb2.cell (p := ⟨w.heap.size + 1, 1, none⟩) (by show w.heap.size + 1 < _; omega)).trans k1_1_1
  have r2_1 : ∀ o, w2.frozen? ⟨w.heap.size + 1, o, none⟩ = false := fun o => (hb2.frozen (p := ⟨w.heap.size + 1, o, none⟩) (by show w.heap.size + 1 < _; omega)).trans (r1_1 o)
  have b2_1 : w.heap.size + 1 < w2.heap.size := World.block_lt_of_cell? _ _ k2_1_0
  have k2_2_0 : w2.cell? ⟨w.heap.size + 1 + 1, 0, none⟩ = some (.int .i64 0) := (hb2.cell (p := ⟨w.heap.size + 1 + 1, 0, none⟩) (by show w.heap.size + 1 + 1 < _; omega)).trans k1_2_0
  have k2_2_1 : w2.cell? ⟨w.heap.size + 1 + 1, 1, none⟩ = some (.slice none 0 0) := (hb2.cell (p := ⟨w.heap.size + 1 + 1, 1, none⟩) (by show w.heap.size + 1 + 1 < _; omega)).trans k1_2_1
  have r2_2 : ∀ o, w2.frozen? ⟨w.heap.size + 1 + 1, o, none⟩ = false := fun o => (hb2.frozen (p := ⟨w.heap.size + 1 + 1, o, none⟩) (by show w.heap.size + 1 + 1 < _; omega)).trans (r1_2 o)
  have b2_2 : w.heap.size + 1 + 1 < w2.heap.size := World.block_lt_of_cell? _ _ k2_2_0
  have hW2 : Below w.heap.size w w2 := by (repeat' (first | (with_reducible exact Below.refl _ _) | (with_reducible assumption) | (with_reducible refine Below.alloc ?_ ?_ _) | (with_reducible refine Below.drew ?_) | (with_reducible refine bdN ?_ _) | (with_reducible refine Below.setCell ?_ ?_ _) | (with_reducible refine chn ?_ (by assumption) ?_) | omega | (simp; done) | (simp; omega)))
  have hy2 := hW2.size
  clear hb2
  clear k1_0_0 k1_0_1 k1_1_0 k1_1_1 k1_2_0 k1_2_1 r1_0 b1_0 r1_1 b1_1 r1_2 b1_2
  go_wp2_with (fail)
  refine bodyPost_ret (v := .tuple #[circuitV 0 none 0 0, .bool false]) (by first | (simp [results, Try.results17, go_sem, *]; done) | (simp (disch := (first | omega | (simp; done) | (simp; omega))) [results, Try.results17, go_sem, *]; done) | (simp only [results, Try.results17]; go_simp; done)) rfl ⟨rfl, ?_⟩
  (repeat' (first | (with_reducible exact Below.refl _ _) | (with_reducible assumption) | (with_reducible refine Below.alloc ?_ ?_ _) | (with_reducible refine Below.drew ?_) | (with_reducible refine bdN ?_ _) | (with_reducible refine Below.setCell ?_ ?_ _) | (with_reducible refine chn ?_ (by assumption) ?_) | omega | (simp; done) | (simp; omega)))

set_option maxRecDepth 100000 in
set_option maxHeartbeats 4000000 in
theorem iConcat_q {a0 b0 : Int} {Ag Ah : Option Addr} {n1 c1 m1 d1 : Nat} {xs ys : List GateV} {w : World} (hA : Rd gateE w Ag xs) (hPA : Pl Ag n1 c1) (hB : Rd gateE w Ah ys) (hPB : Pl Ah m1 d1) (hn : xs.length = n1) (hm : ys.length = m1) (hmn : n1 ≤ maxLen) (hmm : m1 ≤ maxLen) (ho : okC a0 n1 xs = true) (hp : okC b0 m1 ys = true) (hq : a0 ≠ b0) :
    Calls Try.prog 17 #[circuitV a0 Ag n1 c1, circuitV b0 Ah m1 d1] w fun ee w' => ee = .returned (.tuple #[circuitV 0 none 0 0, .bool false]) ∧ Below w.heap.size w w' := by
  have HPA := lay hPA
  have HPB := lay hPB
  clear hPA hPB
  have hq1 : (a0 != b0) = true := by simpa using hq
  have HO := lay ho
  have HP := lay hp
  clear ho hp hq
  have HA := lay hA
  have HB := lay hB
  have HN := lay hn
  have HM := lay hm
  clear hA hB hn hm
  go_enter Try.func17, Try.ntmps17
  go_wp2_with (fail)
  refine (vci (xs := xs) HO.out ?_ HN.out hmn).mono ?_
  · exact HA.out.mono (by (repeat' (first | (with_reducible exact Below.refl _ _) | (with_reducible assumption) | (with_reducible refine Below.alloc ?_ ?_ _) | (with_reducible refine Below.drew ?_) | (with_reducible refine bdN ?_ _) | (with_reducible refine Below.setCell ?_ ?_ _) | (with_reducible refine chn ?_ (by assumption) ?_) | omega | (simp; done) | (simp; omega))))
  rintro ee w1 ⟨rfl, hb1⟩
  have hz1 := hb1.size
  (try simp only [World.size_alloc] at hz1)
  have k1_0_0 : w1.cell? ⟨w.heap.size, 0, none⟩ = some (.int .i64 a0) := (hb1.cell (p := ⟨w.heap.size, 0, none⟩) (by show w.heap.size < _; (try simp only [World.size_alloc]); omega)).trans (by first | rfl | (simp; done) | (simp [*]; done) | (repeat (first | (simp; done) | (refine Bb.c (Bb.new ?_) _ rfl; (simp; done)) | refine kclAl ?_)))
  have k1_0_1 : w1.cell? ⟨w.heap.size, 1, none⟩ = some (.slice Ag n1 c1) := (hb1.cell (p := ⟨w.heap.size, 1, none⟩) (by show w.heap.size < _; (try simp only [World.size_alloc]); omega)).trans (by first | rfl | (simp; done) | (simp [*]; done) | (repeat (first | (simp; done) | (refine Bb.c (Bb.new ?_) _ rfl; (simp; done)) | refine kclAl ?_)))
  have r1_0 : ∀ o, w1.frozen? ⟨w.heap.size, o, none⟩ = false := fun o => (hb1.frozen (p := ⟨w.heap.size, o, none⟩) (by show w.heap.size < _; (try simp only [World.size_alloc]); omega)).trans (by first | rfl | (simp; done) | (simp [*]; done) | (repeat (first | (simp; done) | (refine Bb.f (Bb.new ?_) _; (simp; done)) | refine frAl (by (try simp only [World.size_alloc]); omega) ?_)))
  have b1_0 : w.heap.size < w1.heap.size := World.block_lt_of_cell? _ _ k1_0_0
  have k1_1_0 : w1.cell? ⟨w.heap.size + 1, 0, none⟩ = some (.int .i64 b0) := (hb1.cell (p := ⟨w.heap.size + 1, 0, none⟩) (by show w.heap.size + 1 < _; (try simp only [World.size_alloc]); omega)).trans (by first | rfl | (simp; done) | (simp [*]; done) | (repeat (first | (simp; done) | (refine Bb.c (Bb.new ?_) _ rfl; (simp; done)) | refine kclAl ?_)))
  have k1_1_1 : w1.cell? ⟨w.heap.size + 1, 1, none⟩ = some (.slice Ah m1 d1) := (hb1.cell (p := ⟨w.heap.size + 1, 1, none⟩) (by show w.heap.size + 1 < _; (try simp only [World.size_alloc]); omega)).trans (by first | rfl | (simp; done) | (simp [*]; done) | (repeat (first | (simp; done) | (refine Bb.c (Bb.new ?_) _ rfl; (simp; done)) | refine kclAl ?_)))
  have r1_1 : ∀ o, w1.frozen? ⟨w.heap.size + 1, o, none⟩ = false := fun o => (hb1.frozen (p := ⟨w.heap.size + 1, o, none⟩) (by show w.heap.size + 1 < _; (try simp only [World.size_alloc]); omega)).trans (by first | rfl | (simp; done) | (simp [*]; done) | (repeat (first | (simp; done) | (refine Bb.f (Bb.new ?_) _; (simp; done)) | refine frAl (by (try simp only [World.size_alloc]); omega) ?_)))
  have b1_1 : w.heap.size + 1 < w1.heap.size := World.block_lt_of_cell? _ _ k1_1_0
  have k1_2_0 : w1.cell? ⟨w.heap.size + 1 + 1, 0, none⟩ = some (.int .i64 0) := (hb1.cell (p := ⟨w.heap.size + 1 + 1, 0, none⟩) (by show w.heap.size + 1 + 1 < _; (try simp only [World.size_alloc]); omega)).trans (by first | rfl | (simp; done) | (simp [*]; done) | (repeat (first | (simp; done) | (refine Bb.c (Bb.new ?_) _ rfl; (simp; done)) | refine kclAl ?_)))
  have k1_2_1 : w1.cell? ⟨w.heap.size + 1 + 1, 1, none⟩ = some (.slice none 0 0) := (hb1.cell (p := ⟨w.heap.size + 1 + 1, 1, none⟩) (by show w.heap.size + 1 + 1 < _; (try simp only [World.size_alloc]); omega)).trans (by first | rfl | (simp; done) | (simp [*]; done) | (repeat (first | (simp; done) | (refine Bb.c (Bb.new ?_) _ rfl; (simp; done)) | refine kclAl ?_)))
  have r1_2 : ∀ o, w1.frozen? ⟨w.heap.size + 1 + 1, o, none⟩ = false := fun o => (hb1.frozen (p := ⟨w.heap.size + 1 + 1, o, none⟩) (by show w.heap.size + 1 + 1 < _; (try simp only [World.size_alloc]); omega)).trans (by first | rfl | (simp; done) | (simp [*]; done) | (repeat (first | (simp; done) | (refine Bb.f (Bb.new ?_) _; (simp; done)) | refine frAl (by (try simp only [World.size_alloc]); omega) ?_)))
  have b1_2 : w.heap.size + 1 + 1 < w1.heap.size := World.block_lt_of_cell? _ _ k1_2_0
  have hW1 : Below w.heap.size w w1 := by (repeat' (first | (with_reducible exact Below.refl _ _) | (with_reducible assumption) | (with_reducible refine Below.alloc ?_ ?_ _) | (with_reducible refine Below.drew ?_) | (with_reducible refine bdN ?_ _) | (with_reducible refine Below.setCell ?_ ?_ _) | (with_reducible refine chn ?_ (by assumption) ?_) | omega | (simp; done) | (simp; omega)))
  have hy1 := hW1.size
  clear hb1
  go_wp2_with (fail)
  refine (vci (xs := ys) HP.out ?_ HM.out hmm).mono ?_
  · exact HB.out.mono (by (repeat' (first | (with_reducible exact Below.refl _ _) | (with_reducible assumption) | (with_reducible refine Below.alloc ?_ ?_ _) | (with_reducible refine Below.drew ?_) | (with_reducible refine bdN ?_ _) | (with_reducible refine Below.setCell ?_ ?_ _) | (with_reducible refine chn ?_ (by assumption) ?_) | omega | (simp; done) | (simp; omega))))
  rintro ee w2 ⟨rfl, hb2⟩
  have hz2 := hb2.size
  (try simp only [World.size_alloc] at hz2)
  have k2_0_0 : w2.cell? ⟨w.heap.size, 0, none⟩ = some (.int .i64 a0) := (hb2.cell (p := ⟨w.heap.size, 0, none⟩) (by show w.heap.size < _; omega)).trans k1_0_0
  have k2_0_1 : w2.cell? ⟨w.heap.size, 1, none⟩ = some (.slice Ag n1 c1) := (hb2.cell (p := ⟨w.heap.size, 1, none⟩) (by show w.heap.size < _; omega)).trans k1_0_1
  have r2_0 : ∀ o, w2.frozen? ⟨w.heap.size, o, none⟩ = false := fun o => (hb2.frozen (p := ⟨w.heap.size, o, none⟩) (by show w.heap.size < _; omega)).trans (r1_0 o)
  have b2_0 : w.heap.size < w2.heap.size := World.block_lt_of_cell? _ _ k2_0_0
  have k2_1_0 : w2.cell? ⟨w.heap.size + 1, 0, none⟩ = some (.int .i64 b0) := (hb2.cell (p := ⟨w.heap.size + 1, 0, none⟩) (by show w.heap.size + 1 < _; omega)).trans k1_1_0
  have k2_1_1 : w2.cell? ⟨w.heap.size + 1, 1, none⟩ = some (.slice Ah m1 d1) := (hb2.cell (p := ⟨w.heap.size + 1, 1, none⟩) (by show w.heap.size + 1 < _; omega)).trans k1_1_1
  have r2_1 : ∀ o, w2.frozen? ⟨w.heap.size + 1, o, none⟩ = false := fun o => (hb2.frozen (p := ⟨w.heap.size + 1, o, none⟩) (by show w.heap.size + 1 < _; omega)).trans (r1_1 o)
  have b2_1 : w.heap.size + 1 < w2.heap.size := World.block_lt_of_cell? _ _ k2_1_0
  have k2_2_0 : w2.cell? ⟨w.heap.size + 1 + 1, 0, none⟩ = some (.int .i64 0) := (hb2.cell (p := ⟨w.heap.size + 1 + 1, 0, none⟩) (by show w.heap.size + 1 + 1 < _; omega)).trans k1_2_0
  have k2_2_1 : w2.cell? ⟨w.heap.size + 1 + 1, 1, none⟩ = some (.slice none 0 0) := (hb2.cell (p := ⟨w.heap.size + 1 + 1, 1, none⟩) (by show w.heap.size + 1 + 1 < _; omega)).trans k1_2_1
  have r2_2 : ∀ o, w2.frozen? ⟨w.heap.size + 1 + 1, o, none⟩ = false := fun o => (hb2.frozen (p := ⟨w.heap.size + 1 + 1, o, none⟩) (by show w.heap.size + 1 + 1 < _; omega)).trans (r1_2 o)
  have b2_2 : w.heap.size + 1 + 1 < w2.heap.size := World.block_lt_of_cell? _ _ k2_2_0
  have hW2 : Below w.heap.size w w2 := by (repeat' (first | (with_reducible exact Below.refl _ _) | (with_reducible assumption) | (with_reducible refine Below.alloc ?_ ?_ _) | (with_reducible refine Below.drew ?_) | (with_reducible refine bdN ?_ _) | (with_reducible refine Below.setCell ?_ ?_ _) | (with_reducible refine chn ?_ (by assumption) ?_) | omega | (simp; done) | (simp; omega)))
  have hy2 := hW2.size
  clear hb2
  clear k1_0_0 k1_0_1 k1_1_0 k1_1_1 k1_2_0 k1_2_1 r1_0 b1_0 r1_1 b1_1 r1_2 b1_2
  go_wp2_with (fail)
  refine bodyPost_ret (v := .tuple #[circuitV 0 none 0 0, .bool false]) (by first | (simp [results, Try.results17, go_sem, *]; done) | (simp (disch := (first | omega | (simp; done) | (simp; omega))) [results, Try.results17, go_sem, *]; done) | (simp only [results, Try.results17]; go_simp; done)) rfl ⟨rfl, ?_⟩
  (repeat' (first | (with_reducible exact Below.refl _ _) | (with_reducible assumption) | (with_reducible refine Below.alloc ?_ ?_ _) | (with_reducible refine Below.drew ?_) | (with_reducible refine bdN ?_ _) | (with_reducible refine Below.setCell ?_ ?_ _) | (with_reducible refine chn ?_ (by assumption) ?_) | omega | (simp; done) | (simp; omega)))

set_option maxRecDepth 100000 in
set_option maxHeartbeats 4000000 in
theorem iConcat_n {a0 b0 : Int} {Ag Ah : Option Addr} {n1 c1 m1 d1 : Nat} {xs ys : List GateV} {w : World} (hA : Rd gateE w Ag xs) (hPA : Pl Ag n1 c1) (hB : Rd gateE w Ah ys) (hPB : Pl Ah m1 d1) (hn : xs.length = n1) (hm : ys.length = m1) (hmn : n1 ≤ maxLen) (hmm : m1 ≤ maxLen) (ho : okC a0 n1 xs = true) (hp : okC b0 m1 ys = true) (hq : a0 = b0) (hl : 400 < n1 + m1) (hn4 : n1 ≤ 400) (hm4 : m1 ≤ 400) :
    Calls Try.prog 17 #[circuitV a0 Ag n1 c1, circuitV b0 Ah m1 d1] w fun ee w' => ee = .returned (.tuple #[circuitV 0 none 0 0, .bool false]) ∧ Below w.heap.size w w' := by
  have HPA := lay hPA
  have HPB := lay hPB
  clear hPA hPB
  subst hq
  have hl1 : (400 : Int) < (n1 : Int) + (m1 : Int) := by omega
  have HO := lay ho
  have HP := lay hp
  clear ho hp
  have HA := lay hA
  have HB := lay hB
  have HN := lay hn
  have HM := lay hm
  clear hA hB hn hm
  go_enter Try.func17, Try.ntmps17
  go_wp2_with (fail)
  refine (vci (xs := xs) HO.out ?_ HN.out hmn).mono ?_
  · exact HA.out.mono (by (repeat' (first | (with_reducible exact Below.refl _ _) | (with_reducible assumption) | (with_reducible refine Below.alloc ?_ ?_ _) | (with_reducible refine Below.drew ?_) | (with_reducible refine bdN ?_ _) | (with_reducible refine Below.setCell ?_ ?_ _) | (with_reducible refine chn ?_ (by assumption) ?_) | omega | (simp; done) | (simp; omega))))
  rintro ee w1 ⟨rfl, hb1⟩
  have hz1 := hb1.size
  (try simp only [World.size_alloc] at hz1)
  have k1_0_0 : w1.cell? ⟨w.heap.size, 0, none⟩ = some (.int .i64 a0) := (hb1.cell (p := ⟨w.heap.size, 0, none⟩) (by show w.heap.size < _; (try simp only [World.size_alloc]); omega)).trans (by first | rfl | (simp; done) | (simp [*]; done) | (repeat (first | (simp; done) | (refine Bb.c (Bb.new ?_) _ rfl; (simp; done)) | refine kclAl ?_)))
  have k1_0_1 : w1.cell? ⟨w.heap.size, 1, none⟩ = some (.slice Ag n1 c1) := (hb1.cell (p := ⟨w.heap.size, 1, none⟩) (by show w.heap.size < _; (try simp only [World.size_alloc]); omega)).trans (by first | rfl | (simp; done) | (simp [*]; done) | (repeat (first | (simp; done) | (refine Bb.c (Bb.new ?_) _ rfl; (simp; done)) | refine kclAl ?_)))
  have r1_0 : ∀ o, w1.frozen? ⟨w.heap.size, o, none⟩ = false := fun o => (hb1.frozen (p := ⟨w.heap.size, o, none⟩) (by show w.heap.size < _; (try simp only [World.size_alloc]); omega)).trans (by first | rfl | (simp; done) | (simp [*]; done) | (repeat (first | (simp; done) | (refine Bb.f (Bb.new ?_) _; (simp; done)) | refine frAl (by (try simp only [World.size_alloc]); omega) ?_)))
  have b1_0 : w.heap.size < w1.heap.size := World.block_lt_of_cell? _ _ k1_0_0
  have k1_1_0 : w1.cell? ⟨w.heap.size + 1, 0, none⟩ = some (.int .i64 a0) := (hb1.cell (p := ⟨w.heap.size + 1, 0, none⟩) (by show w.heap.size + 1 < _; (try simp only [World.size_alloc]); omega)).trans (by first | rfl | (simp; done) | (simp [*]; done) | (repeat (first | (simp; done) | (refine Bb.c (Bb.new ?_) _ rfl; (simp; done)) | refine kclAl ?_)))
  have k1_1_1 : w1.cell? ⟨w.heap.size + 1, 1, none⟩ = some (.slice Ah m1 d1) := (hb1.cell (p := ⟨w.heap.size + 1, 1, none⟩) (by show w.heap.size + 1 < _; (try simp only [World.size_alloc]); omega)).trans (by first | rfl | (simp; done) | (simp [*]; done) | (repeat (first | (simp; done) | (refine Bb.c (Bb.new ?_) _ rfl; (simp; done)) | refine kclAl ?_)))
  have r1_1 : ∀ o, w1.frozen? ⟨w.heap.size + 1, o, none⟩ = false := fun o => (hb1.frozen (p := ⟨w.heap.size + 1, o, none⟩) (by show w.heap.size + 1 < _; (try simp only [World.size_alloc]); omega)).trans (by first | rfl | (simp; done) | (simp [*]; done) | (repeat (first | (simp; done) | (refine Bb.f (Bb.new ?_) _; (simp; done)) | refine frAl (by (try simp only [World.size_alloc]); omega) ?_)))
  have b1_1 : w.heap.size + 1 < w1.heap.size := World.block_lt_of_cell? _ _ k1_1_0
  have k1_2_0 : w1.cell? ⟨w.heap.size + 1 + 1, 0, none⟩ = some (.int .i64 0) := (hb1.cell (p := ⟨w.heap.size + 1 + 1, 0, none⟩) (by show w.heap.size + 1 + 1 < _; (try simp only [World.size_alloc]); omega)).trans (by first | rfl | (simp; done) | (simp [*]; done) | (repeat (first | (simp; done) | (refine Bb.c (Bb.new ?_) _ rfl; (simp; done)) | refine kclAl ?_)))
  have k1_2_1 : w1.cell? ⟨w.heap.size + 1 + 1, 1, none⟩ = some (.slice none 0 0) := (hb1.cell (p := ⟨w.heap.size + 1 + 1, 1, none⟩) (by show w.heap.size + 1 + 1 < _; (try simp only [World.size_alloc]); omega)).trans (by first | rfl | (simp; done) | (simp [*]; done) | (repeat (first | (simp; done) | (refine Bb.c (Bb.new ?_) _ rfl; (simp; done)) | refine kclAl ?_)))
  have r1_2 : ∀ o, w1.frozen? ⟨w.heap.size + 1 + 1, o, none⟩ = false := fun o => (hb1.frozen (p := ⟨w.heap.size + 1 + 1, o, none⟩) (by show w.heap.size + 1 + 1 < _; (try simp only [World.size_alloc]); omega)).trans (by first | rfl | (simp; done) | (simp [*]; done) | (repeat (first | (simp; done) | (refine Bb.f (Bb.new ?_) _; (simp; done)) | refine frAl (by (try simp only [World.size_alloc]); omega) ?_)))
  have b1_2 : w.heap.size + 1 + 1 < w1.heap.size := World.block_lt_of_cell? _ _ k1_2_0
  have hW1 : Below w.heap.size w w1 := by (repeat' (first | (with_reducible exact Below.refl _ _) | (with_reducible assumption) | (with_reducible refine Below.alloc ?_ ?_ _) | (with_reducible refine Below.drew ?_) | (with_reducible refine bdN ?_ _) | (with_reducible refine Below.setCell ?_ ?_ _) | (with_reducible refine chn ?_ (by assumption) ?_) | omega | (simp; done) | (simp; omega)))
  have hy1 := hW1.size
  clear hb1
  go_wp2_with (fail)
  refine (vci (xs := ys) HP.out ?_ HM.out hmm).mono ?_
  · exact HB.out.mono (by (repeat' (first | (with_reducible exact Below.refl _ _) | (with_reducible assumption) | (with_reducible refine Below.alloc ?_ ?_ _) | (with_reducible refine Below.drew ?_) | (with_reducible refine bdN ?_ _) | (with_reducible refine Below.setCell ?_ ?_ _) | (with_reducible refine chn ?_ (by assumption) ?_) | omega | (simp; done) | (simp; omega))))
  rintro ee w2 ⟨rfl, hb2⟩
  have hz2 := hb2.size
  (try simp only [World.size_alloc] at hz2)
  have k2_0_0 : w2.cell? ⟨w.heap.size, 0, none⟩ = some (.int .i64 a0) := (hb2.cell (p := ⟨w.heap.size, 0, none⟩) (by show w.heap.size < _; omega)).trans k1_0_0
  have k2_0_1 : w2.cell? ⟨w.heap.size, 1, none⟩ = some (.slice Ag n1 c1) := (hb2.cell (p := ⟨w.heap.size, 1, none⟩) (by show w.heap.size < _; omega)).trans k1_0_1
  have r2_0 : ∀ o, w2.frozen? ⟨w.heap.size, o, none⟩ = false := fun o => (hb2.frozen (p := ⟨w.heap.size, o, none⟩) (by show w.heap.size < _; omega)).trans (r1_0 o)
  have b2_0 : w.heap.size < w2.heap.size := World.block_lt_of_cell? _ _ k2_0_0
  have k2_1_0 : w2.cell? ⟨w.heap.size + 1, 0, none⟩ = some (.int .i64 a0) := (hb2.cell (p := ⟨w.heap.size + 1, 0, none⟩) (by show w.heap.size + 1 < _; omega)).trans k1_1_0
  have k2_1_1 : w2.cell? ⟨w.heap.size + 1, 1, none⟩ = some (.slice Ah m1 d1) := (hb2.cell (p := ⟨w.heap.size + 1, 1, none⟩) (by show w.heap.size + 1 < _; omega)).trans k1_1_1
  have r2_1 : ∀ o, w2.frozen? ⟨w.heap.size + 1, o, none⟩ = false := fun o => (hb2.frozen (p := ⟨w.heap.size + 1, o, none⟩) (by show w.heap.size + 1 < _; omega)).trans (r1_1 o)
  have b2_1 : w.heap.size + 1 < w2.heap.size := World.block_lt_of_cell? _ _ k2_1_0
  have k2_2_0 : w2.cell? ⟨w.heap.size + 1 + 1, 0, none⟩ = some (.int .i64 0) := (hb2.cell (p := ⟨w.heap.size + 1 + 1, 0, none⟩) (by show w.heap.size + 1 + 1 < _; omega)).trans k1_2_0
  have k2_2_1 : w2.cell? ⟨w.heap.size + 1 + 1, 1, none⟩ = some (.slice none 0 0) := (hb2.cell (p := ⟨w.heap.size + 1 + 1, 1, none⟩) (by show w.heap.size + 1 + 1 < _; omega)).trans k1_2_1
  have r2_2 : ∀ o, w2.frozen? ⟨w.heap.size + 1 + 1, o, none⟩ = false := fun o => (hb2.frozen (p := ⟨w.heap.size + 1 + 1, o, none⟩) (by show w.heap.size + 1 + 1 < _; omega)).trans (r1_2 o)
  have b2_2 : w.heap.size + 1 + 1 < w2.heap.size := World.block_lt_of_cell? _ _ k2_2_0
  have hW2 : Below w.heap.size w w2 := by (repeat' (first | (with_reducible exact Below.refl _ _) | (with_reducible assumption) | (with_reducible refine Below.alloc ?_ ?_ _) | (with_reducible refine Below.drew ?_) | (with_reducible refine bdN ?_ _) | (with_reducible refine Below.setCell ?_ ?_ _) | (with_reducible refine chn ?_ (by assumption) ?_) | omega | (simp; done) | (simp; omega)))
  have hy2 := hW2.size
  clear hb2
  clear k1_0_0 k1_0_1 k1_1_0 k1_1_1 k1_2_0 k1_2_1 r1_0 b1_0 r1_1 b1_1 r1_2 b1_2
  go_wp2_with (fail)
  refine bodyPost_ret (v := .tuple #[circuitV 0 none 0 0, .bool false]) (by first | (simp [results, Try.results17, go_sem, *]; done) | (simp (disch := (first | omega | (simp; done) | (simp; omega))) [results, Try.results17, go_sem, *]; done) | (simp only [results, Try.results17]; go_simp; done)) rfl ⟨rfl, ?_⟩
  (repeat' (first | (with_reducible exact Below.refl _ _) | (with_reducible assumption) | (with_reducible refine Below.alloc ?_ ?_ _) | (with_reducible refine Below.drew ?_) | (with_reducible refine bdN ?_ _) | (with_reducible refine Below.setCell ?_ ?_ _) | (with_reducible refine chn ?_ (by assumption) ?_) | omega | (simp; done) | (simp; omega)))

set_option maxRecDepth 100000 in
set_option maxHeartbeats 8000000 in
theorem iConcat_t {a0 b0 : Int} {Ag Ah : Option Addr} {n1 c1 m1 d1 : Nat} {xs ys : List GateV} {w : World} (hA : Rd gateE w Ag xs) (hPA : Pl Ag n1 c1) (hB : Rd gateE w Ah ys) (hPB : Pl Ah m1 d1) (hn : xs.length = n1) (hm : ys.length = m1) (hmn : n1 ≤ maxLen) (hmm : m1 ≤ maxLen) (ho : okC a0 n1 xs = true) (hp : okC b0 m1 ys = true) (hq : a0 = b0) (hl : n1 + m1 ≤ 400) :
    Calls Try.prog 17 #[circuitV a0 Ag n1 c1, circuitV b0 Ah m1 d1] w fun ee w' => OkC a0 (xs ++ ys) w ee w' := by
  have HPA := lay hPA
  have HPB := lay hPB
  clear hPA hPB
  subst hq
  have hl1 : ¬ ((400 : Int) < (n1 : Int) + (m1 : Int)) := by omega
  have hll : (xs ++ ys).length = n1 + m1 := by rw [List.length_append, hn, hm]
  have HLL := lay hll
  have HO := lay ho
  have HP := lay hp
  clear ho hp hll
  have HA := lay hA
  have HB := lay hB
  have HN := lay hn
  have HM := lay hm
  clear hA hB hn hm
  go_enter Try.func17, Try.ntmps17
  go_wp2_with (fail)
  refine (vci (xs := xs) HO.out ?_ HN.out hmn).mono ?_
  · exact HA.out.mono (by (repeat' (first | (with_reducible exact Below.refl _ _) | (with_reducible assumption) | (with_reducible refine Below.alloc ?_ ?_ _) | (with_reducible refine Below.drew ?_) | (with_reducible refine bdN ?_ _) | (with_reducible refine Below.setCell ?_ ?_ _) | (with_reducible refine chn ?_ (by assumption) ?_) | omega | (simp; done) | (simp; omega))))
  rintro ee w1 ⟨rfl, hb1⟩
  have hz1 := hb1.size
  (try simp only [World.size_alloc] at hz1)
  have k1_0_0 : w1.cell? ⟨w.heap.size, 0, none⟩ = some (.int .i64 a0) := (hb1.cell (p := ⟨w.heap.size, 0, none⟩) (by show w.heap.size < _; (try simp only [World.size_alloc]); omega)).trans (by first | rfl | (simp; done) | (simp [*]; done) | (repeat (first | (simp; done) | (refine Bb.c (Bb.new ?_) _ rfl; (simp; done)) | refine kclAl ?_)))
  have k1_0_1 : w1.cell? ⟨w.heap.size, 1, none⟩ = some (.slice Ag n1 c1) := (hb1.cell (p := ⟨w.heap.size, 1, none⟩) (by show w.heap.size < _; (try simp only [World.size_alloc]); omega)).trans (by first | rfl | (simp; done) | (simp [*]; done) | (repeat (first | (simp; done) | (refine Bb.c (Bb.new ?_) _ rfl; (simp; done)) | refine kclAl ?_)))
  have r1_0 : ∀ o, w1.frozen? ⟨w.heap.size, o, none⟩ = false := fun o => (hb1.frozen (p := ⟨w.heap.size, o, none⟩) (by show w.heap.size < _; (try simp only [World.size_alloc]); omega)).trans (by first | rfl | (simp; done) | (simp [*]; done) | (repeat (first | (simp; done) | (refine Bb.f (Bb.new ?_) _; (simp; done)) | refine frAl (by (try simp only [World.size_alloc]); omega) ?_)))
  have b1_0 : w.heap.size < w1.heap.size := World.block_lt_of_cell? _ _ k1_0_0
  have k1_1_0 : w1.cell? ⟨w.heap.size + 1, 0, none⟩ = some (.int .i64 a0) := (hb1.cell (p := ⟨w.heap.size + 1, 0, none⟩) (by show w.heap.size + 1 < _; (try simp only [World.size_alloc]); omega)).trans (by first | rfl | (simp; done) | (simp [*]; done) | (repeat (first | (simp; done) | (refine Bb.c (Bb.new ?_) _ rfl; (simp; done)) | refine kclAl ?_)))
  have k1_1_1 : w1.cell? ⟨w.heap.size + 1, 1, none⟩ = some (.slice Ah m1 d1) := (hb1.cell (p := ⟨w.heap.size + 1, 1, none⟩) (by show w.heap.size + 1 < _; (try simp only [World.size_alloc]); omega)).trans (by first | rfl | (simp; done) | (simp [*]; done) | (repeat (first | (simp; done) | (refine Bb.c (Bb.new ?_) _ rfl; (simp; done)) | refine kclAl ?_)))
  have r1_1 : ∀ o, w1.frozen? ⟨w.heap.size + 1, o, none⟩ = false := fun o => (hb1.frozen (p := ⟨w.heap.size + 1, o, none⟩) (by show w.heap.size + 1 < _; (try simp only [World.size_alloc]); omega)).trans (by first | rfl | (simp; done) | (simp [*]; done) | (repeat (first | (simp; done) | (refine Bb.f (Bb.new ?_) _; (simp; done)) | refine frAl (by (try simp only [World.size_alloc]); omega) ?_)))
  have b1_1 : w.heap.size + 1 < w1.heap.size := World.block_lt_of_cell? _ _ k1_1_0
  have k1_2_0 : w1.cell? ⟨w.heap.size + 1 + 1, 0, none⟩ = some (.int .i64 0) := (hb1.cell (p := ⟨w.heap.size + 1 + 1, 0, none⟩) (by show w.heap.size + 1 + 1 < _; (try simp only [World.size_alloc]); omega)).trans (by first | rfl | (simp; done) | (simp [*]; done) | (repeat (first | (simp; done) | (refine Bb.c (Bb.new ?_) _ rfl; (simp; done)) | refine kclAl ?_)))
  have k1_2_1 : w1.cell? ⟨w.heap.size + 1 + 1, 1, none⟩ = some (.slice none 0 0) := (hb1.cell (p := ⟨w.heap.size + 1 + 1, 1, none⟩) (by show w.heap.size + 1 + 1 < _; (try simp only [World.size_alloc]); omega)).trans (by first | rfl | (simp; done) | (simp [*]; done) | (repeat (first | (simp; done) | (refine Bb.c (Bb.new ?_) _ rfl; (simp; done)) | refine kclAl ?_)))
  have r1_2 : ∀ o, w1.frozen? ⟨w.heap.size + 1 + 1, o, none⟩ = false := fun o => (hb1.frozen (p := ⟨w.heap.size + 1 + 1, o, none⟩) (by show w.heap.size + 1 + 1 < _; (try simp only [World.size_alloc]); omega)).trans (by first | rfl | (simp; done) | (simp [*]; done) | (repeat (first | (simp; done) | (refine Bb.f (Bb.new ?_) _; (simp; done)) | refine frAl (by (try simp only [World.size_alloc]); omega) ?_)))
  have b1_2 : w.heap.size + 1 + 1 < w1.heap.size := World.block_lt_of_cell? _ _ k1_2_0
  have hW1 : Below w.heap.size w w1 := by (repeat' (first | (with_reducible exact Below.refl _ _) | (with_reducible assumption) | (with_reducible refine Below.alloc ?_ ?_ _) | (with_reducible refine Below.drew ?_) | (with_reducible refine bdN ?_ _) | (with_reducible refine Below.setCell ?_ ?_ _) | (with_reducible refine chn ?_ (by assumption) ?_) | omega | (simp; done) | (simp; omega)))
  have hy1 := hW1.size
  clear hb1
  go_wp2_with (fail)
  refine (vci (xs := ys) HP.out ?_ HM.out hmm).mono ?_
  · exact HB.out.mono (by (repeat' (first | (with_reducible exact Below.refl _ _) | (with_reducible assumption) | (with_reducible refine Below.alloc ?_ ?_ _) | (with_reducible refine Below.drew ?_) | (with_reducible refine bdN ?_ _) | (with_reducible refine Below.setCell ?_ ?_ _) | (with_reducible refine chn ?_ (by assumption) ?_) | omega | (simp; done) | (simp; omega))))
  rintro ee w2 ⟨rfl, hb2⟩
  have hz2 := hb2.size
  (try simp only [World.size_alloc] at hz2)
  have k2_0_0 : w2.cell? ⟨w.heap.size, 0, none⟩ = some (.int .i64 a0) := (hb2.cell (p := ⟨w.heap.size, 0, none⟩) (by show w.heap.size < _; omega)).trans k1_0_0
  have k2_0_1 : w2.cell? ⟨w.heap.size, 1, none⟩ = some (.slice Ag n1 c1) := (hb2.cell (p := ⟨w.heap.size, 1, none⟩) (by show w.heap.size < _; omega)).trans k1_0_1
  have r2_0 : ∀ o, w2.frozen? ⟨w.heap.size, o, none⟩ = false := fun o => (hb2.frozen (p := ⟨w.heap.size, o, none⟩) (by show w.heap.size < _; omega)).trans (r1_0 o)
  have b2_0 : w.heap.size < w2.heap.size := World.block_lt_of_cell? _ _ k2_0_0
  have k2_1_0 : w2.cell? ⟨w.heap.size + 1, 0, none⟩ = some (.int .i64 a0) := (hb2.cell (p := ⟨w.heap.size + 1, 0, none⟩) (by show w.heap.size + 1 < _; omega)).trans k1_1_0
  have k2_1_1 : w2.cell? ⟨w.heap.size + 1, 1, none⟩ = some (.slice Ah m1 d1) := (hb2.cell (p := ⟨w.heap.size + 1, 1, none⟩) (by show w.heap.size + 1 < _; omega)).trans k1_1_1
  have r2_1 : ∀ o, w2.frozen? ⟨w.heap.size + 1, o, none⟩ = false := fun o => (hb2.frozen (p := ⟨w.heap.size + 1, o, none⟩) (by show w.heap.size + 1 < _; omega)).trans (r1_1 o)
  have b2_1 : w.heap.size + 1 < w2.heap.size := World.block_lt_of_cell? _ _ k2_1_0
  have k2_2_0 : w2.cell? ⟨w.heap.size + 1 + 1, 0, none⟩ = some (.int .i64 0) := (hb2.cell (p := ⟨w.heap.size + 1 + 1, 0, none⟩) (by show w.heap.size + 1 + 1 < _; omega)).trans k1_2_0
  have k2_2_1 : w2.cell? ⟨w.heap.size + 1 + 1, 1, none⟩ = some (.slice none 0 0) := (hb2.cell (p := ⟨w.heap.size + 1 + 1, 1, none⟩) (by show w.heap.size + 1 + 1 < _; omega)).trans k1_2_1
  have r2_2 : ∀ o, w2.frozen? ⟨w.heap.size + 1 + 1, o, none⟩ = false := fun o => (hb2.frozen (p := ⟨w.heap.size + 1 + 1, o, none⟩) (by show w.heap.size + 1 + 1 < _; omega)).trans (r1_2 o)
  have b2_2 : w.heap.size + 1 + 1 < w2.heap.size := World.block_lt_of_cell? _ _ k2_2_0
  have hW2 : Below w.heap.size w w2 := by (repeat' (first | (with_reducible exact Below.refl _ _) | (with_reducible assumption) | (with_reducible refine Below.alloc ?_ ?_ _) | (with_reducible refine Below.drew ?_) | (with_reducible refine bdN ?_ _) | (with_reducible refine Below.setCell ?_ ?_ _) | (with_reducible refine chn ?_ (by assumption) ?_) | omega | (simp; done) | (simp; omega)))
  have hy2 := hW2.size
  clear hb2
  clear k1_0_0 k1_0_1 k1_1_0 k1_1_1 k1_2_0 k1_2_1 r1_0 b1_0 r1_1 b1_1 r1_2 b1_2
  go_wp2_with (fail)
  have yk2_0_0 : w2.drew.cell? ⟨w.heap.size, 0, none⟩ = some (.int .i64 a0) := k2_0_0
  have yk2_0_1 : w2.drew.cell? ⟨w.heap.size, 1, none⟩ = some (.slice Ag n1 c1) := k2_0_1
  have yk2_1_1 : w2.drew.cell? ⟨w.heap.size + 1, 1, none⟩ = some (.slice Ah m1 d1) := k2_1_1
  refine wp_region_x (fun w' => w'.cell? ⟨w.heap.size, 0, none⟩ = some (.int .i64 a0) ∧ w'.cell? ⟨w.heap.size, 1, none⟩ = some (.slice Ag n1 c1) ∧ w'.cell? ⟨w.heap.size + 1, 1, none⟩ = some (.slice Ah m1 d1)) 1000 (by kernel_rfl) ⟨yk2_0_0, yk2_0_1, yk2_1_1⟩ (fun hS0 => ?_)
  refine wpAnyX_take (i := 0) (oi := _) (v := ?_) rfl (by kernel_rfl) (by kernel_rfl) (by kernel_rfl) (by kernel_rfl) (fun _ _ _ h => h) (Or.inl ⟨by rfl, ?_⟩) hS0 ?_
  rotate_left 1
  · (intro w hSw; (try dsimp only at hSw); go_simp; (try with_reducible rfl))
  try simp only [Act.put, List.setIfInBounds_toArray, List.set_cons_zero, List.set_cons_succ]
  refine wpAnyX_take (i := 1) (oi := _) (v := ?_) rfl (by kernel_rfl) (by kernel_rfl) (by kernel_rfl) (by kernel_rfl) (fun _ _ _ h => h) (Or.inl ⟨by rfl, ?_⟩) hS0 ?_
  rotate_left 1
  · (intro w hSw; (try dsimp only at hSw); go_simp; (try with_reducible rfl))
  try simp only [Act.put, List.setIfInBounds_toArray, List.set_cons_zero, List.set_cons_succ]
  refine wpAnyX_take (i := 2) (oi := _) (v := ?_) rfl (by kernel_rfl) (by kernel_rfl) (by kernel_rfl) (by kernel_rfl) (fun _ _ _ h => h) (Or.inl ⟨by rfl, ?_⟩) hS0 ?_
  rotate_left 1
  · (intro w hSw; (try dsimp only at hSw); go_simp; (try with_reducible rfl))
  try simp only [Act.put, List.setIfInBounds_toArray, List.set_cons_zero, List.set_cons_succ]
  refine wpAnyX_take (i := 3) (oi := _) (v := ?_) rfl (by kernel_rfl) (by kernel_rfl) (by kernel_rfl) (by kernel_rfl) (fun _ _ _ h => h) (Or.inl ⟨by rfl, ?_⟩) hS0 ?_
  rotate_left 1
  · (intro w hSw; (try dsimp only at hSw); go_simp; (try with_reducible rfl))
  try simp only [Act.put, List.setIfInBounds_toArray, List.set_cons_zero, List.set_cons_succ]
  refine wpAnyX_take (i := 4) (oi := _) (v := ?_) rfl (by kernel_rfl) (by kernel_rfl) (by kernel_rfl) (by kernel_rfl) (fun _ _ _ h => h) (Or.inl ⟨by rfl, ?_⟩) hS0 ?_
  rotate_left 1
  · (intro w hSw; (try dsimp only at hSw); go_simp; (try with_reducible rfl))
  try simp only [Act.put, List.setIfInBounds_toArray, List.set_cons_zero, List.set_cons_succ]
  refine wpAnyX_take (i := 5) (oi := _) (v := ?_) rfl (by kernel_rfl) (by kernel_rfl) (by kernel_rfl) (by kernel_rfl) (fun _ _ _ h => h) (Or.inl ⟨by rfl, ?_⟩) hS0 ?_
  rotate_left 1
  · (intro w hSw; (try dsimp only at hSw); go_simp; (try with_reducible rfl))
  try simp only [Act.put, List.setIfInBounds_toArray, List.set_cons_zero, List.set_cons_succ]
  refine wpAnyX_one (i := 6) (o := _) rfl (by kernel_rfl) (fun K hK => ?_)
  go_simp
  refine hK.out _ _ (fun _ => ?_) (fun hS1 => ?_)
  · first | exact ⟨kclAl (hS0.1), kclAl (hS0.2.1), kclAl (hS0.2.2)⟩ | exact ⟨kclAld (hS0.1), kclAld (hS0.2.1), kclAld (hS0.2.2)⟩
  clear hK K
  have hS1 := hS1 (by decide)
  try simp only [Act.put, List.setIfInBounds_toArray, List.set_cons_zero, List.set_cons_succ]
  refine wpAnyX_one (i := 7) (o := _) rfl (by kernel_rfl) (fun K hK => ?_)
  have hb6 : Below w.heap.size w _ := (hW2.drew.alloc (by simp only [World.size_drew]; omega) (.cells #[.slice Ag n1 c1, .slice Ah m1 d1] 40))
  have scat : Calls Try.prog 50 #[.slice (some ⟨w2.heap.size, 0, none⟩) 2 2] (w2.alloc (.cells #[.slice Ag n1 c1, .slice Ah m1 d1] 40)).drew (CatR (xs ++ ys) (w2.alloc (.cells #[.slice Ag n1 c1, .slice Ah m1 d1] 40)).drew) := by
    have hc0 : (w2.alloc (.cells #[.slice Ag n1 c1, .slice Ah m1 d1] 40)).drew.cell? ⟨w2.heap.size, 0, none⟩ = some (.slice Ag n1 c1) := Bb.c (Bb.drew (Bb.new rfl)) 0 rfl
    have hc1 : (w2.alloc (.cells #[.slice Ag n1 c1, .slice Ah m1 d1] 40)).drew.cell? ⟨w2.heap.size, 1, none⟩ = some (.slice Ah m1 d1) := Bb.c (Bb.drew (Bb.new rfl)) 1 rfl
    by_cases h0 : n1 + m1 = 0
    · exact scat_z hc0 hc1 (HA.out.mono (by (repeat' (first | (with_reducible exact Below.refl _ _) | (with_reducible assumption) | (with_reducible refine Below.alloc ?_ ?_ _) | (with_reducible refine Below.drew ?_) | (with_reducible refine bdN ?_ _) | (with_reducible refine Below.setCell ?_ ?_ _) | (with_reducible refine chn ?_ (by assumption) ?_) | omega | (simp; done) | (simp; omega))))) HPA.out (HB.out.mono (by (repeat' (first | (with_reducible exact Below.refl _ _) | (with_reducible assumption) | (with_reducible refine Below.alloc ?_ ?_ _) | (with_reducible refine Below.drew ?_) | (with_reducible refine bdN ?_ _) | (with_reducible refine Below.setCell ?_ ?_ _) | (with_reducible refine chn ?_ (by assumption) ?_) | omega | (simp; done) | (simp; omega))))) HPB.out HN.out HM.out h0
    · exact scat_p hc0 hc1 (HA.out.mono (by (repeat' (first | (with_reducible exact Below.refl _ _) | (with_reducible assumption) | (with_reducible refine Below.alloc ?_ ?_ _) | (with_reducible refine Below.drew ?_) | (with_reducible refine bdN ?_ _) | (with_reducible refine Below.setCell ?_ ?_ _) | (with_reducible refine chn ?_ (by assumption) ?_) | omega | (simp; done) | (simp; omega))))) HPA.out (HB.out.mono (by (repeat' (first | (with_reducible exact Below.refl _ _) | (with_reducible assumption) | (with_reducible refine Below.alloc ?_ ?_ _) | (with_reducible refine Below.drew ?_) | (with_reducible refine bdN ?_ _) | (with_reducible refine Below.setCell ?_ ?_ _) | (with_reducible refine chn ?_ (by assumption) ?_) | omega | (simp; done) | (simp; omega))))) HPB.out HN.out HM.out (by omega) hl
  go_simp
  refine scat.mono ?_
  rintro ee w7 ⟨A7, cp7, rfl, hO7, hb7⟩
  rw [HLL.out]
  refine hK.out _ _ (fun _ => ?_) (fun hS2 => ?_)
  · exact ⟨kcl hb7 (hS1.1), kcl hb7 (hS1.2.1), kcl hb7 (hS1.2.2)⟩
  clear hK K
  have hS2 := hS2 (by decide)
  try simp only [Act.put, List.setIfInBounds_toArray, List.set_cons_zero, List.set_cons_succ]
  refine wpAnyX_take (i := 8) (oi := _) (v := ?_) rfl (by kernel_rfl) (by kernel_rfl) (by kernel_rfl) (by kernel_rfl) (fun _ _ _ h => h) (Or.inl ⟨by rfl, ?_⟩) hS2 ?_
  rotate_left 1
  · (intro w hSw; (try dsimp only at hSw); go_simp; (try with_reducible rfl))
  try simp only [Act.put, List.setIfInBounds_toArray, List.set_cons_zero, List.set_cons_succ]
  refine wpAnyX_one (i := 9) (o := _) rfl (by kernel_rfl) (fun K hK => ?_)
  have z0 : w7.cell? ⟨w.heap.size + 1 + 1, 0, none⟩ = some (.int .i64 0) := kcl hb7 (kclAl k2_2_0)
  have z1 : w7.cell? ⟨w.heap.size + 1 + 1, 1, none⟩ = some (.slice none 0 0) := kcl hb7 (kclAl k2_2_1)
  have zf : ∀ o, w7.frozen? ⟨w.heap.size + 1 + 1, o, none⟩ = false := fun o => ((bcl hb7).2.1 _ o (by simp only [World.size_drew, World.size_alloc]; omega)).trans (frAl (by omega) (r2_2 o))
  have zl := World.block_lt_of_cell? _ _ z0
  go_simp
  refine hK.out _ _ (fun _ => ?_) (fun hS3 => ?_)
  · exact ⟨kclS2 (by omega) (hS2.1), kclS2 (by omega) (hS2.2.1), kclS2 (by omega) (hS2.2.2)⟩
  clear hK K
  have hS3 := hS3 (by decide)
  try simp only [Act.put, List.setIfInBounds_toArray, List.set_cons_zero, List.set_cons_succ]
  refine wpAnyX_take (i := 10) (oi := _) (v := ?_) rfl (by kernel_rfl) (by kernel_rfl) (by kernel_rfl) (by kernel_rfl) (fun _ _ _ h => h) (Or.inl ⟨by rfl, ?_⟩) hS3 ?_
  rotate_left 1
  · (intro w hSw; (try dsimp only at hSw); go_simp; (try with_reducible rfl))
  change wpAnyX _ _ _ _ _ _ _ _ (Act.put _ (some 5) _) _
  try simp only [Act.put, List.setIfInBounds_toArray, List.set_cons_zero, List.set_cons_succ]
  refine wpAnyX_done (by kernel_rfl) ?_ _
  have hW7 : Below w.heap.size w w7 := chn (hW2.alloc (by omega) _).drew hb7 (by simp only [World.size_drew, World.size_alloc]; omega)
  go_wp2_with (fail)
  refine bodyPost_ret (v := .tuple #[circuitV a0 A7 (n1 + m1) cp7, .bool true]) (by first | (simp [results, Try.results17, go_sem, *]; done) | (simp (disch := (first | omega | (simp; done) | (simp; omega))) [results, Try.results17, go_sem, *]; done) | (simp only [results, Try.results17]; go_simp; done)) rfl (OkC.i HLL.out rfl ?_ ?_)
  · have R := hO7.dn (show w.heap.size + 1 + 1 + 1 ≤ _ from by simp only [World.size_drew, World.size_alloc]; omega)
    refine Ow.dn (B := w.heap.size + 1 + 1 + 1) ?_ (by omega)
    (repeat' (first | (with_reducible assumption) | (with_reducible refine Ow.al ?_ _) | (refine Ow.far ?_ (by dsimp only; omega) _)))
  · (repeat' (first | (with_reducible exact Below.refl _ _) | (with_reducible assumption) | (with_reducible refine Below.alloc ?_ ?_ _) | (with_reducible refine Below.drew ?_) | (with_reducible refine bdN ?_ _) | (with_reducible refine Below.setCell ?_ ?_ _) | (with_reducible refine chn ?_ (by assumption) ?_) | omega | (simp; done) | (simp; omega)))

end Go.Proofs.Ytdbnjoeanoiifaa
