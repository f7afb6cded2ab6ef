/- The model's Concat. -/
import Derived.Test.YtdbnjoeanoiifaaKo1
namespace Go.Proofs.Ytdbnjoeanoiifaa
open Go.RowKit
set_option linter.unusedVariables false
set_option linter.unusedSimpArgs false
attribute [local irreducible] World.setCell

/-- a circuit that may be read is the answer -/
def OkR (q : Int) (L : List GateV) (w : World) (ee : Ending) (w' : World) : Prop := ∃ (B : Option Addr) (cq : Nat), ee = .returned (.tuple #[circuitV q B L.length cq, .bool true]) ∧ (Rd gateE w' B L ∧ (∀ a, B = some a → w.heap.size ≤ a.block)) ∧ Below w.heap.size w w'
theorem OkR.i {q : Int} {L : List GateV} {w w' : World} {ee : Ending} {B : Option Addr} {k cq : Nat} (hk : L.length = k) (he : ee = .returned (.tuple #[circuitV q B k cq, .bool true])) (hO : Rd gateE w' B L) (hb : ∀ a, B = some a → w.heap.size ≤ a.block) (h : Below w.heap.size w w') : OkR q L w ee w' := ⟨B, cq, by rw [hk]; exact he, ⟨hO, hb⟩, h⟩
set_option maxRecDepth 100000 in
set_option maxHeartbeats 4000000 in
theorem sConcat_a {a0 b0 : Int} {Ag Ah : Option Addr} {n1 c1 m1 d1 : Nat} {xs ys : List GateV} {w : World} (hA : Rd gateE w Ag xs) (hPA : Pl Ag n1 c1) (hB : Rd gateE w Ah ys) (hPB : Pl Ah m1 d1) (hn : xs.length = n1) (hm : ys.length = m1) (hmn : n1 ≤ maxLen) (hmm : m1 ≤ maxLen) (ho : okC a0 n1 xs = false) :
    Calls Try.prog 18 #[circuitV a0 Ag n1 c1, circuitV b0 Ah m1 d1] w fun ee w' => ee = .returned (.tuple #[circuitV 0 none 0 0, .bool false]) ∧ Below w.heap.size w w' := by
  have HPA := lay hPA
  have HPB := lay hPB
  clear hPA hPB
  have HO := lay ho
  clear ho
  have HA := lay hA
  have HB := lay hB
  have HN := lay hn
  have HM := lay hm
  clear hA hB hn hm
  go_enter Try.func18, Try.ntmps18
  go_wp2_with (fail)
  refine (vcs (xs := xs) HO.out ?_ HN.out hmn).mono ?_
  · exact HA.out.mono (by (repeat' (first | (with_reducible exact Below.refl _ _) | (with_reducible assumption) | (with_reducible refine Below.alloc ?_ ?_ _) | (with_reducible refine Below.drew ?_) | (with_reducible refine bdN ?_ _) | (with_reducible refine Below.setCell ?_ ?_ _) | (with_reducible refine chn ?_ (by assumption) ?_) | omega | (simp; done) | (simp; omega))))
  rintro ee w1 ⟨rfl, hb1⟩
  have hz1 := hb1.size
  (try simp only [World.size_alloc] at hz1)
  have k1_0_0 : w1.cell? ⟨w.heap.size, 0, none⟩ = some (.int .i64 a0) := (hb1.cell (p := ⟨w.heap.size, 0, none⟩) (by show w.heap.size < _; (try simp only [World.size_alloc]); omega)).trans (by first | rfl | (simp; done) | (simp [*]; done) | (repeat (first | (simp; done) | (refine Bb.c (Bb.new ?_) _ rfl; (simp; done)) | refine kclAl ?_)))
  have k1_0_1 : w1.cell? ⟨w.heap.size, 1, none⟩ = some (.slice Ag n1 c1) := (hb1.cell (p := ⟨w.heap.size, 1, none⟩) (by show w.heap.size < _; (try simp only [World.size_alloc]); omega)).trans (by first | rfl | (simp; done) | (simp [*]; done) | (repeat (first | (simp; done) | (refine Bb.c (Bb.new ?_) _ rfl; (simp; done)) | refine kclAl ?_)))
  have r1_0 : ∀ o, w1.frozen? ⟨w.heap.size, o, none⟩ = false := fun o => (hb1.frozen (p := ⟨w.heap.size, o, none⟩) (by show w.heap.size < _; (try simp only [World.size_alloc]); omega)).trans (by first | rfl | (simp; done) | (simp [*]; done) | (repeat (first | (simp; done) | (refine Bb.f (Bb.new ?_) _; (simp; done)) | refine frAl (by (try simp only [World.size_alloc]); omega) ?_)))
  have b1_0 : w.heap.size < w1.heap.size := World.block_lt_of_cell? _ _ k1_0_0
  have k1_1_0 : w1.cell? ⟨w.heap.size + 1, 0, none⟩ = some (.int .i64 b0) := (hb1.cell (p := ⟨w.heap.size + 1, 0, none⟩) (by show w.heap.size + 1 < _; (try simp only [World.size_alloc]); omega)).trans (by first | rfl | (simp; done) | (simp [*]; done) | (repeat (first | (simp; done) | (refine Bb.c (Bb.new ?_) _ rfl; (simp; done)) | refine kclAl ?_)))
  have k1_1_1 : w1.cell? ⟨w.heap.size + 1, 1, none⟩ = some (.slice Ah m1 d1) := (hb1.cell (p := ⟨w.heap.size + 1, 1, none⟩) (by show w.heap.size + 1 < _; (try simp only [World.size_alloc]); omega)).trans (by first | rfl | (simp; done) | (simp [*]; done) | (repeat (first | (simp; done) | (refine Bb.c (Bb.new ?_) _ rfl; (simp; done)) | refine kclAl ?_)))
  have r1_1 : ∀ o, w1.frozen? ⟨w.heap.size + 1, o, none⟩ = false := fun o => (hb1.frozen (p := ⟨w.heap.size + 1, o, none⟩) (by show w.heap.size + 1 < _; (try simp only [World.size_alloc]); omega)).trans (by first | rfl | (simp; done) | (simp [*]; done) | (repeat (first | (simp; done) | (refine Bb.f (Bb.new ?_) _; (simp; done)) | refine frAl (by (try simp only [World.size_alloc]); omega) ?_)))
  have b1_1 : w.heap.size + 1 < w1.heap.size := World.block_lt_of_cell? _ _ k1_1_0
  have k1_2_0 : w1.cell? ⟨w.heap.size + 1 + 1, 0, none⟩ = some (.int .i64 0) := (hb1.cell (p := ⟨w.heap.size + 1 + 1, 0, none⟩) (by show w.heap.size + 1 + 1 < _; (try simp only [World.size_alloc]); omega)).trans (by first | rfl | (simp; done) | (simp [*]; done) | (repeat (first | (simp; done) | (refine Bb.c (Bb.new ?_) _ rfl; (simp; done)) | refine kclAl ?_)))
  have k1_2_1 : w1.cell? ⟨w.heap.size + 1 + 1, 1, none⟩ = some (.slice none 0 0) := (hb1.cell (p := ⟨w.heap.size + 1 + 1, 1, none⟩) (by show w.heap.size + 1 + 1 < _; (try simp only [World.size_alloc]); omega)).trans (by first | rfl | (simp; done) | (simp [*]; done) | (repeat (first | (simp; done) | (refine Bb.c (Bb.new ?_) _ rfl; (simp; done)) | refine kclAl ?_)))
  have r1_2 : ∀ o, w1.frozen? ⟨w.heap.size + 1 + 1, o, none⟩ = false := fun o => (hb1.frozen (p := ⟨w.heap.size + 1 + 1, o, none⟩) (by show w.heap.size + 1 + 1 < _; (try simp only [World.size_alloc]); omega)).trans (by first | rfl | (simp; done) | (simp [*]; done) | (repeat (first | (simp; done) | (refine Bb.f (Bb.new ?_) _; (simp; done)) | refine frAl (by (try simp only [World.size_alloc]); omega) ?_)))
  have b1_2 : w.heap.size + 1 + 1 < w1.heap.size := World.block_lt_of_cell? _ _ k1_2_0
  have hW1 : Below w.heap.size w w1 := by (repeat' (first | (with_reducible exact Below.refl _ _) | (with_reducible assumption) | (with_reducible refine Below.alloc ?_ ?_ _) | (with_reducible refine Below.drew ?_) | (with_reducible refine bdN ?_ _) | (with_reducible refine Below.setCell ?_ ?_ _) | (with_reducible refine chn ?_ (by assumption) ?_) | omega | (simp; done) | (simp; omega)))
  have hy1 := hW1.size
  clear hb1
  go_wp2_with (fail)
  refine bodyPost_ret (v := .tuple #[circuitV 0 none 0 0, .bool false]) (by first | (simp [results, Try.results18, go_sem, *]; done) | (simp (disch := (first | omega | (simp; done) | (simp; omega))) [results, Try.results18, go_sem, *]; done) | (simp only [results, Try.results18]; go_simp; done)) rfl ⟨rfl, ?_⟩
  (repeat' (first | (with_reducible exact Below.refl _ _) | (with_reducible assumption) | (with_reducible refine Below.alloc ?_ ?_ _) | (with_reducible refine Below.drew ?_) | (with_reducible refine bdN ?_ _) | (with_reducible refine Below.setCell ?_ ?_ _) | (with_reducible refine chn ?_ (by assumption) ?_) | omega | (simp; done) | (simp; omega)))

set_option maxRecDepth 100000 in
set_option maxHeartbeats 4000000 in
theorem sConcat_b {a0 b0 : Int} {Ag Ah : Option Addr} {n1 c1 m1 d1 : Nat} {xs ys : List GateV} {w : World} (hA : Rd gateE w Ag xs) (hPA : Pl Ag n1 c1) (hB : Rd gateE w Ah ys) (hPB : Pl Ah m1 d1) (hn : xs.length = n1) (hm : ys.length = m1) (hmn : n1 ≤ maxLen) (hmm : m1 ≤ maxLen) (ho : okC a0 n1 xs = true) (hp : okC b0 m1 ys = false) :
    Calls Try.prog 18 #[circuitV a0 Ag n1 c1, circuitV b0 Ah m1 d1] w fun ee w' => ee = .returned (.tuple #[circuitV 0 none 0 0, .bool false]) ∧ Below w.heap.size w w' := by
  have HPA := lay hPA
  have HPB := lay hPB
  clear hPA hPB
  have HO := lay ho
  have HP := lay hp
  clear ho hp
  have HA := lay hA
  have HB := lay hB
  have HN := lay hn
  have HM := lay hm
  clear hA hB hn hm
  go_enter Try.func18, Try.ntmps18
  go_wp2_with (fail)
  refine (vcs (xs := xs) HO.out ?_ HN.out hmn).mono ?_
  · exact HA.out.mono (by (repeat' (first | (with_reducible exact Below.refl _ _) | (with_reducible assumption) | (with_reducible refine Below.alloc ?_ ?_ _) | (with_reducible refine Below.drew ?_) | (with_reducible refine bdN ?_ _) | (with_reducible refine Below.setCell ?_ ?_ _) | (with_reducible refine chn ?_ (by assumption) ?_) | omega | (simp; done) | (simp; omega))))
  rintro ee w1 ⟨rfl, hb1⟩
  have hz1 := hb1.size
  (try simp only [World.size_alloc] at hz1)
  have k1_0_0 : w1.cell? ⟨w.heap.size, 0, none⟩ = some (.int .i64 a0) := (hb1.cell (p := ⟨w.heap.size, 0, none⟩) (by show w.heap.size < _; (try simp only [World.size_alloc]); omega)).trans (by first | rfl | (simp; done) | (simp [*]; done) | (repeat (first | (simp; done) | (refine Bb.c (Bb.new ?_) _ rfl; (simp; done)) | refine kclAl ?_)))
  have k1_0_1 : w1.cell? ⟨w.heap.size, 1, none⟩ = some (.slice Ag n1 c1) := (hb1.cell (p := ⟨w.heap.size, 1, none⟩) (by show w.heap.size < _; (try simp only [World.size_alloc]); omega)).trans (by first | rfl | (simp; done) | (simp [*]; done) | (repeat (first | (simp; done) | (refine Bb.c (Bb.new ?_) _ rfl; (simp; done)) | refine kclAl ?_)))
  have r1_0 : ∀ o, w1.frozen? ⟨w.heap.size, o, none⟩ = false := fun o => (hb1.frozen (p := ⟨w.heap.size, o, none⟩) (by show w.heap.size < _; (try simp only [World.size_alloc]); omega)).trans (by first | rfl | (simp; done) | (simp [*]; done) | (repeat (first | (simp; done) | (refine Bb.f (Bb.new ?_) _; (simp; done)) | refine frAl (by (try simp only [World.size_alloc]); omega) ?_)))
  have b1_0 : w.heap.size < w1.heap.size := World.block_lt_of_cell? _ _ k1_0_0
  have k1_1_0 : w1.cell? ⟨w.heap.size + 1, 0, none⟩ = some (.int .i64 b0) := (hb1.cell (p := ⟨w.heap.size + 1, 0, none⟩) (by show w.heap.size + 1 < _; (try simp only [World.size_alloc]); omega)).trans (by first | rfl | (simp; done) | (simp [*]; done) | (repeat (first | (simp; done) | (refine Bb.c (Bb.new ?_) _ rfl; (simp; done)) | refine kclAl ?_)))
  have k1_1_1 : w1.cell? ⟨w.heap.size + 1, 1, none⟩ = some (.slice Ah m1 d1) := (hb1.cell (p := ⟨w.heap.size + 1, 1, none⟩) (by show w.heap.size + 1 < _; (try simp only [World.size_alloc]); omega)).trans (by first | rfl | (simp; done) | (simp [*]; done) | (repeat (first | (simp; done) | (refine Bb.c (Bb.new ?_) _ rfl; (simp; done)) | refine kclAl ?_)))
  have r1_1 : ∀ o, w1.frozen? ⟨w.heap.size + 1, o, none⟩ = false := fun o => (hb1.frozen (p := ⟨w.heap.size + 1, o, none⟩) (by show w.heap.size + 1 < _; (try simp only [World.size_alloc]); omega)).trans (by first | rfl | (simp; done) | (simp [*]; done) | (repeat (first | (simp; done) | (refine Bb.f (Bb.new ?_) _; (simp; done)) | refine frAl (by (try simp only [World.size_alloc]); omega) ?_)))
  have b1_1 : w.heap.size + 1 < w1.heap.size := World.block_lt_of_cell? _ _ k1_1_0
  have k1_2_0 : w1.cell? ⟨w.heap.size + 1 + 1, 0, none⟩ = some (.int .i64 0) := (hb1.cell (p := ⟨w.heap.size + 1 + 1, 0, none⟩) (by show w.heap.size + 1 + 1 < _; (try simp only [World.size_alloc]); omega)).trans (by first | rfl | (simp; done) | (simp [*]; done) | (repeat (first | (simp; done) | (refine Bb.c (Bb.new ?_) _ rfl; (simp; done)) | refine kclAl ?_)))
  have k1_2_1 : w1.cell? ⟨w.heap.size + 1 + 1, 1, none⟩ = some (.slice none 0 0) := (hb1.cell (p := ⟨w.heap.size + 1 + 1, 1, none⟩) (by show w.heap.size + 1 + 1 < _; (try simp only [World.size_alloc]); omega)).trans (by first | rfl | (simp; done) | (simp [*]; done) | (repeat (first | (simp; done) | (refine Bb.c (Bb.new ?_) _ rfl; (simp; done)) | refine kclAl ?_)))
  have r1_2 : ∀ o, w1.frozen? ⟨w.heap.size + 1 + 1, o, none⟩ = false := fun o => (hb1.frozen (p := ⟨w.heap.size + 1 + 1, o, none⟩) (by show w.heap.size + 1 + 1 < _; (try simp only [World.size_alloc]); omega)).trans (by first | rfl | (simp; done) | (simp [*]; done) | (repeat (first | (simp; done) | (refine Bb.f (Bb.new ?_) _; (simp; done)) | refine frAl (by (try simp only [World.size_alloc]); omega) ?_)))
  have b1_2 : w.heap.size + 1 + 1 < w1.heap.size := World.block_lt_of_cell? _ _ k1_2_0
  have hW1 : Below w.heap.size w w1 := by (repeat' (first | (with_reducible exact Below.refl _ _) | (with_reducible assumption) | (with_reducible refine Below.alloc ?_ ?_ _) | (with_reducible refine Below.drew ?_) | (with_reducible refine bdN ?_ _) | (with_reducible refine Below.setCell ?_ ?_ _) | (with_reducible refine chn ?_ (by assumption) ?_) | omega | (simp; done) | (simp; omega)))
  have hy1 := hW1.size
  clear hb1
  go_wp2_with (fail)
  refine (vcs (xs := ys) HP.out ?_ HM.out hmm).mono ?_
  · exact HB.out.mono (by (repeat' (first | (with_reducible exact Below.refl _ _) | (with_reducible assumption) | (with_reducible refine Below.alloc ?_ ?_ _) | (with_reducible refine Below.drew ?_) | (with_reducible refine bdN ?_ _) | (with_reducible refine Below.setCell ?_ ?_ _) | (with_reducible refine chn ?_ (by assumption) ?_) | omega | (simp; done) | (simp; omega))))
  rintro ee w2 ⟨rfl, hb2⟩
  have hz2 := hb2.size
  (try simp only [World.size_alloc] at hz2)
  have k2_0_0 : w2.cell? ⟨w.heap.size, 0, none⟩ = some (.int .i64 a0) := (hb2.cell (p := ⟨w.heap.size, 0, none⟩) (by show w.heap.size < _; omega)).trans k1_0_0
  have k2_0_1 : w2.cell? ⟨w.heap.size, 1, none⟩ = some (.slice Ag n1 c1) := (hb2.cell (p := ⟨w.heap.size, 1, none⟩) (by show w.heap.size < _; omega)).trans k1_0_1
  have r2_0 : ∀ o, w2.frozen? ⟨w.heap.size, o, none⟩ = false := fun o => (hb2.frozen (p := ⟨w.heap.size, o, none⟩) (by show w.heap.size < _; omega)).trans (r1_0 o)
  have b2_0 : w.heap.size < w2.heap.size := World.block_lt_of_cell? _ _ k2_0_0
  have k2_1_0 : w2.cell? ⟨w.heap.size + 1, 0, none⟩ = some (.int .i64 b0) := (hb2.cell (p := ⟨w.heap.size + 1, 0, none⟩) (by show w.heap.size + 1 < _; omega)).trans k1_1_0
  have k2_1_1 : w2.cell? ⟨w.heap.size + 1, 1, none⟩ = some (.slice Ah m1 d1) := (hb2.cell (p := ⟨w.heap.size + 1, 1, none⟩) (by show w.heap.size + 1 < _; omega)).trans k1_1_1
  have r2_1 : ∀ o, w2.frozen? ⟨w.heap.size + 1, o, none⟩ = false := fun o => (hb2.frozen (p := ⟨w.heap.size + 1, o, none⟩) (by show w.heap.size + 1 < _; omega)).trans (r1_1 o)
  have b2_1 : w.heap.size + 1 < w2.heap.size := World.block_lt_of_cell? _ _ k2_1_0
  have k2_2_0 : w2.cell? ⟨w.heap.size + 1 + 1, 0, none⟩ = some (.int .i64 0) := (hb2.cell (p := ⟨w.heap.size + 1 + 1, 0, none⟩) (by show w.heap.size + 1 + 1 < _; omega)).trans k1_2_0
  have k2_2_1 : w2.cell? ⟨w.heap.size + 1 + 1, 1, none⟩ = some (.slice none 0 0) := (hb2.cell (p := ⟨w.heap.size + 1 + 1, 1, none⟩) (by show w.heap.size + 1 + 1 < _; omega)).trans k1_2_1
  have r2_2 : ∀ o, w2.frozen? ⟨w.heap.size + 1 + 1, o, none⟩ = false := fun o => (hb2.frozen (p := ⟨w.heap.size + 1 + 1, o, none⟩) (by show w.heap.size + 1 + 1 < _; omega)).trans (r1_2 o)
  have b2_2 : w.heap.size + 1 + 1 < w2.heap.size := World.block_lt_of_cell? _ _ k2_2_0
  have hW2 : Below w.heap.size w w2 := by (repeat' (first | (with_reducible exact Below.refl _ _) | (with_reducible assumption) | (with_reducible refine Below.alloc ?_ ?_ _) | (with_reducible refine Below.drew ?_) | (with_reducible refine bdN ?_ _) | (with_reducible refine Below.setCell ?_ ?_ _) | (with_reducible refine chn ?_ (by assumption) ?_) | omega | (simp; done) | (simp; omega)))
  have hy2 := hW2.size
  clear hb2
  clear k1_0_0 k1_0_1 k1_1_0 k1_1_1 k1_2_0 k1_2_1 r1_0 b1_0 r1_1 b1_1 r1_2 b1_2
  go_wp2_with (fail)
  refine bodyPost_ret (v := .tuple #[circuitV 0 none 0 0, .bool false]) (by first | (simp [results, Try.results18, go_sem, *]; done) | (simp (disch := (first | omega | (simp; done) | (simp; omega))) [results, Try.results18, go_sem, *]; done) | (simp only [results, Try.results18]; go_simp; done)) rfl ⟨rfl, ?_⟩
  (repeat' (first | (with_reducible exact Below.refl _ _) | (with_reducible assumption) | (with_reducible refine Below.alloc ?_ ?_ _) | (with_reducible refine Below.drew ?_) | (with_reducible refine bdN ?_ _) | (with_reducible refine Below.setCell ?_ ?_ _) | (with_reducible refine chn ?_ (by assumption) ?_) | omega | (simp; done) | (simp; omega)))

set_option maxRecDepth 100000 in
set_option maxHeartbeats 4000000 in
theorem sConcat_q {a0 b0 : Int} {Ag Ah : Option Addr} {n1 c1 m1 d1 : Nat} {xs ys : List GateV} {w : World} (hA : Rd gateE w Ag xs) (hPA : Pl Ag n1 c1) (hB : Rd gateE w Ah ys) (hPB : Pl Ah m1 d1) (hn : xs.length = n1) (hm : ys.length = m1) (hmn : n1 ≤ maxLen) (hmm : m1 ≤ maxLen) (ho : okC a0 n1 xs = true) (hp : okC b0 m1 ys = true) (hq : a0 ≠ b0) :
    Calls Try.prog 18 #[circuitV a0 Ag n1 c1, circuitV b0 Ah m1 d1] w fun ee w' => ee = .returned (.tuple #[circuitV 0 none 0 0, .bool false]) ∧ Below w.heap.size w w' := by
  have HPA := lay hPA
  have HPB := lay hPB
  clear hPA hPB
  have hq1 : (a0 != b0) = true := by simpa using hq
  have HO := lay ho
  have HP := lay hp
  clear ho hp hq
  have HA := lay hA
  have HB := lay hB
  have HN := lay hn
  have HM := lay hm
  clear hA hB hn hm
  go_enter Try.func18, Try.ntmps18
  go_wp2_with (fail)
  refine (vcs (xs := xs) HO.out ?_ HN.out hmn).mono ?_
  · exact HA.out.mono (by (repeat' (first | (with_reducible exact Below.refl _ _) | (with_reducible assumption) | (with_reducible refine Below.alloc ?_ ?_ _) | (with_reducible refine Below.drew ?_) | (with_reducible refine bdN ?_ _) | (with_reducible refine Below.setCell ?_ ?_ _) | (with_reducible refine chn ?_ (by assumption) ?_) | omega | (simp; done) | (simp; omega))))
  rintro ee w1 ⟨rfl, hb1⟩
  have hz1 := hb1.size
  (try simp only [World.size_alloc] at hz1)
  have k1_0_0 : w1.cell? ⟨w.heap.size, 0, none⟩ = some (.int .i64 a0) := (hb1.cell (p := ⟨w.heap.size, 0, none⟩) (by show w.heap.size < _; (try simp only [World.size_alloc]); omega)).trans (by first | rfl | (simp; done) | (simp [*]; done) | (repeat (first | (simp; done) | (refine Bb.c (Bb.new ?_) _ rfl; (simp; done)) | refine kclAl ?_)))
  have k1_0_1 : w1.cell? ⟨w.heap.size, 1, none⟩ = some (.slice Ag n1 c1) := (hb1.cell (p := ⟨w.heap.size, 1, none⟩) (by show w.heap.size < _; (try simp only [World.size_alloc]); omega)).trans (by first | rfl | (simp; done) | (simp [*]; done) | (repeat (first | (simp; done) | (refine Bb.c (Bb.new ?_) _ rfl; (simp; done)) | refine kclAl ?_)))
  have r1_0 : ∀ o, w1.frozen? ⟨w.heap.size, o, none⟩ = false := fun o => (hb1.frozen (p := ⟨w.heap.size, o, none⟩) (by show w.heap.size < _; (try simp only [World.size_alloc]); omega)).trans (by first | rfl | (simp; done) | (simp [*]; done) | (repeat (first | (simp; done) | (refine Bb.f (Bb.new ?_) _; (simp; done)) | refine frAl (by (try simp only [World.size_alloc]); omega) ?_)))
  have b1_0 : w.heap.size < w1.heap.size := World.block_lt_of_cell? _ _ k1_0_0
  have k1_1_0 : w1.cell? ⟨w.heap.size + 1, 0, none⟩ = some (.int .i64 b0) := (hb1.cell (p := ⟨w.heap.size + 1, 0, none⟩) (by show w.heap.size + 1 < _; (try simp only [World.size_alloc]); omega)).trans (by first | rfl | (simp; done) | (simp [*]; done) | (repeat (first | (simp; done) | (refine Bb.c (Bb.new ?_) _ rfl; (simp; done)) | refine kclAl ?_)))
  have k1_1_1 : w1.cell? ⟨w.heap.size + 1, 1, none⟩ = some (.slice Ah m1 d1) := (hb1.cell (p := ⟨w.heap.size + 1, 1, none⟩) (by show w.heap.size + 1 < _; (try simp only [World.size_alloc]); omega)).trans (by first | rfl | (simp; done) | (simp [*]; done) | (repeat (first | (simp; done) | (refine Bb.c (Bb.new ?_) _ rfl; (simp; done)) | refine kclAl ?_)))
  have r1_1 : ∀ o, w1.frozen? ⟨w.heap.size + 1, o, none⟩ = false := fun o => (hb1.frozen (p := ⟨w.heap.size + 1, o, none⟩) (by show w.heap.size + 1 < _; (try simp only [World.size_alloc]); omega)).trans (by first | rfl | (simp; done) | (simp [*]; done) | (repeat (first | (simp; done) | (refine Bb.f (Bb.new ?_) _; (simp; done)) | refine frAl (by (try simp only [World.size_alloc]); omega) ?_)))
  have b1_1 : w.heap.size + 1 < w1.heap.size := World.block_lt_of_cell? _ _ k1_1_0
  have k1_2_0 : w1.cell? ⟨w.heap.size + 1 + 1, 0, none⟩ = some (.int .i64 0) := (hb1.cell (p := ⟨w.heap.size + 1 + 1, 0, none⟩) (by show w.heap.size + 1 + 1 < _; (try simp only [World.size_alloc]); omega)).trans (by first | rfl | (simp; done) | (simp [*]; done) | (repeat (first | (simp; done) | (refine Bb.c (Bb.new ?_) _ rfl; (simp; done)) | refine kclAl ?_)))
  have k1_2_1 : w1.cell? ⟨w.heap.size + 1 + 1, 1, none⟩ = some (.slice none 0 0) := (hb1.cell (p := ⟨w.heap.size + 1 + 1, 1, none⟩) (by show w.heap.size + 1 + 1 < _; (try simp only [World.size_alloc]); omega)).trans (by first | rfl | (simp; done) | (simp [*]; done) | (repeat (first | (simp; done) | (refine Bb.c (Bb.new ?_) _ rfl; (simp; done)) | refine kclAl ?_)))
  have r1_2 : ∀ o, w1.frozen? ⟨w.heap.size + 1 + 1, o, none⟩ = false := fun o => (hb1.frozen (p := ⟨w.heap.size + 1 + 1, o, none⟩) (by show w.heap.size + 1 + 1 < _; (try simp only [World.size_alloc]); omega)).trans (by first | rfl | (simp; done) | (simp [*]; done) | (repeat (first | (simp; done) | (refine Bb.f (Bb.new ?_) _; (simp; done)) | refine frAl (by (try simp only [World.size_alloc]); omega) ?_)))
  have b1_2 : w.heap.size + 1 + 1 < w1.heap.size := World.block_lt_of_cell? _ _ k1_2_0
  have hW1 : Below w.heap.size w w1 := by (repeat' (first | (with_reducible exact Below.refl _ _) | (with_reducible assumption) | (with_reducible refine Below.alloc ?_ ?_ _) | (with_reducible refine Below.drew ?_) | (with_reducible refine bdN ?_ _) | (with_reducible refine Below.setCell ?_ ?_ _) | (with_reducible refine chn ?_ (by assumption) ?_) | omega | (simp; done) | (simp; omega)))
  have hy1 := hW1.size
  clear hb1
  go_wp2_with (fail)
  refine (vcs (xs := ys) HP.out ?_ HM.out hmm).mono ?_
  · exact HB.out.mono (by (repeat' (first | (with_reducible exact Below.refl _ _) | (with_reducible assumption) | (with_reducible refine Below.alloc ?_ ?_ _) | (with_reducible refine Below.drew ?_) | (with_reducible refine bdN ?_ _) | (with_reducible refine Below.setCell ?_ ?_ _) | (with_reducible refine chn ?_ (by assumption) ?_) | omega | (simp; done) | (simp; omega))))
  rintro ee w2 ⟨rfl, hb2⟩
  have hz2 := hb2.size
  (try simp only [World.size_alloc] at hz2)
  have k2_0_0 : w2.cell? ⟨w.heap.size, 0, none⟩ = some (.int .i64 a0) := (hb2.cell (p := ⟨w.heap.size, 0, none⟩) (by show w.heap.size < _; omega)).trans k1_0_0
  have k2_0_1 : w2.cell? ⟨w.heap.size, 1, none⟩ = some (.slice Ag n1 c1) := (hb2.cell (p := ⟨w.heap.size, 1, none⟩) (by show w.heap.size < _; omega)).trans k1_0_1
  have r2_0 : ∀ o, w2.frozen? ⟨w.heap.size, o, none⟩ = false := fun o => (hb2.frozen (p := ⟨w.heap.size, o, none⟩) (by show w.heap.size < _; omega)).trans (r1_0 o)
  have b2_0 : w.heap.size < w2.heap.size := World.block_lt_of_cell? _ _ k2_0_0
  have k2_1_0 : w2.cell? ⟨w.heap.size + 1, 0, none⟩ = some (.int .i64 b0) := (hb2.cell (p := ⟨w.heap.size + 1, 0, none⟩) (by show w.heap.size + 1 < _; omega)).trans k1_1_0
  have k2_1_1 : w2.cell? ⟨w.heap.size + 1, 1, none⟩ = some (.slice Ah m1 d1) := (hb2.cell (p := ⟨w.heap.size + 1, 1, none⟩) (by show w.heap.size + 1 < _; omega)).trans k1_1_1
  have r2_1 : ∀ o, w2.frozen? ⟨w.heap.size + 1, o, none⟩ = false := fun o => (hb2.frozen (p := ⟨w.heap.size + 1, o, none⟩) (by show w.heap.size + 1 < _; omega)).trans (r1_1 o)
  have b2_1 : w.heap.size + 1 < w2.heap.size := World.block_lt_of_cell? _ _ k2_1_0
  have k2_2_0 : w2.cell? ⟨w.heap.size + 1 + 1, 0, none⟩ = some (.int .i64 0) := (hb2.cell (p := ⟨w.heap.size + 1 + 1, 0, none⟩) (by show w.heap.size + 1 + 1 < _; omega)).trans k1_2_0
  have k2_2_1 : w2.cell? ⟨w.heap.size + 1 + 1, 1, none⟩ = some (.slice none 0 0) := (hb2.cell (p := ⟨w.heap.size + 1 + 1, 1, none⟩) (by show w.heap.size + 1 + 1 < _; omega)).trans k1_2_1
  have r2_2 : ∀ o, w2.frozen? ⟨w.heap.size + 1 + 1, o, none⟩ = false := fun o => (hb2.frozen (p := ⟨w.heap.size + 1 + 1, o, none⟩) (by show w.heap.size + 1 + 1 < _; omega)).trans (r1_2 o)
  have b2_2 : w.heap.size + 1 + 1 < w2.heap.size := World.block_lt_of_cell? _ _ k2_2_0
  have hW2 : Below w.heap.size w w2 := by (repeat' (first | (with_reducible exact Below.refl _ _) | (with_reducible assumption) | (with_reducible refine Below.alloc ?_ ?_ _) | (with_reducible refine Below.drew ?_) | (with_reducible refine bdN ?_ _) | (with_reducible refine Below.setCell ?_ ?_ _) | (with_reducible refine chn ?_ (by assumption) ?_) | omega | (simp; done) | (simp; omega)))
  have hy2 := hW2.size
  clear hb2
  clear k1_0_0 k1_0_1 k1_1_0 k1_1_1 k1_2_0 k1_2_1 r1_0 b1_0 r1_1 b1_1 r1_2 b1_2
  go_wp2_with (fail)
  refine bodyPost_ret (v := .tuple #[circuitV 0 none 0 0, .bool false]) (by first | (simp [results, Try.results18, go_sem, *]; done) | (simp (disch := (first | omega | (simp; done) | (simp; omega))) [results, Try.results18, go_sem, *]; done) | (simp only [results, Try.results18]; go_simp; done)) rfl ⟨rfl, ?_⟩
  (repeat' (first | (with_reducible exact Below.refl _ _) | (with_reducible assumption) | (with_reducible refine Below.alloc ?_ ?_ _) | (with_reducible refine Below.drew ?_) | (with_reducible refine bdN ?_ _) | (with_reducible refine Below.setCell ?_ ?_ _) | (with_reducible refine chn ?_ (by assumption) ?_) | omega | (simp; done) | (simp; omega)))

set_option maxRecDepth 100000 in
set_option maxHeartbeats 4000000 in
theorem sConcat_n {a0 b0 : Int} {Ag Ah : Option Addr} {n1 c1 m1 d1 : Nat} {xs ys : List GateV} {w : World} (hA : Rd gateE w Ag xs) (hPA : Pl Ag n1 c1) (hB : Rd gateE w Ah ys) (hPB : Pl Ah m1 d1) (hn : xs.length = n1) (hm : ys.length = m1) (hmn : n1 ≤ maxLen) (hmm : m1 ≤ maxLen) (ho : okC a0 n1 xs = true) (hp : okC b0 m1 ys = true) (hq : a0 = b0) (hl : 400 < n1 + m1) (hn4 : n1 ≤ 400) (hm4 : m1 ≤ 400) :
    Calls Try.prog 18 #[circuitV a0 Ag n1 c1, circuitV b0 Ah m1 d1] w fun ee w' => ee = .returned (.tuple #[circuitV 0 none 0 0, .bool false]) ∧ Below w.heap.size w w' := by
  have HPA := lay hPA
  have HPB := lay hPB
  clear hPA hPB
  subst hq
  have hl1 : (400 : Int) < (n1 : Int) + (m1 : Int) := by omega
  have HO := lay ho
  have HP := lay hp
  clear ho hp
  have HA := lay hA
  have HB := lay hB
  have HN := lay hn
  have HM := lay hm
  clear hA hB hn hm
  go_enter Try.func18, Try.ntmps18
  go_wp2_with (fail)
  refine (vcs (xs := xs) HO.out ?_ HN.out hmn).mono ?_
  · exact HA.out.mono (by (repeat' (first | (with_reducible exact Below.refl _ _) | (with_reducible assumption) | (with_reducible refine Below.alloc ?_ ?_ _) | (with_reducible refine Below.drew ?_) | (with_reducible refine bdN ?_ _) | (with_reducible refine Below.setCell ?_ ?_ _) | (with_reducible refine chn ?_ (by assumption) ?_) | omega | (simp; done) | (simp; omega))))
  rintro ee w1 ⟨rfl, hb1⟩
  have hz1 := hb1.size
  (try simp only [World.size_alloc] at hz1)
  have k1_0_0 : w1.cell? ⟨w.heap.size, 0, none⟩ = some (.int .i64 a0) := (hb1.cell (p := ⟨w.heap.size, 0, none⟩) (by show w.heap.size < _; (try simp only [World.size_alloc]); omega)).trans (by first | rfl | (simp; done) | (simp [*]; done) | (repeat (first | (simp; done) | (refine Bb.c (Bb.new ?_) _ rfl; (simp; done)) | refine kclAl ?_)))
  have k1_0_1 : w1.cell? ⟨w.heap.size, 1, none⟩ = some (.slice Ag n1 c1) := (hb1.cell (p := ⟨w.heap.size, 1, none⟩) (by show w.heap.size < _; (try simp only [World.size_alloc]); omega)).trans (by first | rfl | (simp; done) | (simp [*]; done) | (repeat (first | (simp; done) | (refine Bb.c (Bb.new ?_) _ rfl; (simp; done)) | refine kclAl ?_)))
  have r1_0 : ∀ o, w1.frozen? ⟨w.heap.size, o, none⟩ = false := fun o => (hb1.frozen (p := ⟨w.heap.size, o, none⟩) (by show w.heap.size < _; (try simp only [World.size_alloc]); omega)).trans (by first | rfl | (simp; done) | (simp [*]; done) | (repeat (first | (simp; done) | (refine Bb.f (Bb.new ?_) _; (simp; done)) | refine frAl (by (try simp only [World.size_alloc]); omega) ?_)))
  have b1_0 : w.heap.size < w1.heap.size := World.block_lt_of_cell? _ _ k1_0_0
  have k1_1_0 : w1.cell? ⟨w.heap.size + 1, 0, none⟩ = some (.int .i64 a0) := (hb1.cell (p := ⟨w.heap.size + 1, 0, none⟩) (by show w.heap.size + 1 < _; (try simp only [World.size_alloc]); omega)).trans (by first | rfl | (simp; done) | (simp [*]; done) | (repeat (first | (simp; done) | (refine Bb.c (Bb.new ?_) _ rfl; (simp; done)) | refine kclAl ?_)))
  have k1_1_1 : w1.cell? ⟨w.heap.size + 1, 1, none⟩ = some (.slice Ah m1 d1) := (hb1.cell (p := ⟨w.heap.size + 1, 1, none⟩) (by show w.heap.size + 1 < _; (try simp only [World.size_alloc]); omega)).trans (by first | rfl | (simp; done) | (simp [*]; done) | (repeat (first | (simp; done) | (refine Bb.c (Bb.new ?_) _ rfl; (simp; done)) | refine kclAl ?_)))
  have r1_1 : ∀ o, w1.frozen? ⟨w.heap.size + 1, o, none⟩ = false := fun o => (hb1.frozen (p := ⟨w.heap.size + 1, o, none⟩) (by show w.heap.size + 1 < _; (try simp only [World.size_alloc]); omega)).trans (by first | rfl | (simp; done) | (simp [*]; done) | (repeat (first | (simp; done) | (refine Bb.f (Bb.new ?_) _; (simp; done)) | refine frAl (by (try simp only [World.size_alloc]); omega) ?_)))
  have b1_1 : w.heap.size + 1 < w1.heap.size := World.block_lt_of_cell? _ _ k1_1_0
  have k1_2_0 : w1.cell? ⟨w.heap.size + 1 + 1, 0, none⟩ = some (.int .i64 0) := (hb1.cell (p := ⟨w.heap.size + 1 + 1, 0, none⟩) (by show w.heap.size + 1 + 1 < _; (try simp only [World.size_alloc]); omega)).trans (by first | rfl | (simp; done) | (simp [*]; done) | (repeat (first | (simp; done) | (refine Bb.c (Bb.new ?_) _ rfl; (simp; done)) | refine kclAl ?_)))
  have k1_2_1 : w1.cell? ⟨w.heap.size + 1 + 1, 1, none⟩ = some (.slice none 0 0) := (hb1.cell (p := ⟨w.heap.size + 1 + 1, 1, none⟩) (by show w.heap.size + 1 + 1 < _; (try simp only [World.size_alloc]); omega)).trans (by first | rfl | (simp; done) | (simp [*]; done) | (repeat (first | (simp; done) | (refine Bb.c (Bb.new ?_) _ rfl; (simp; done)) | refine kclAl ?_)))
  have r1_2 : ∀ o, w1.frozen? ⟨w.heap.size + 1 + 1, o, none⟩ = false := fun o => (hb1.frozen (p := ⟨w.heap.size + 1 + 1, o, none⟩) (by show w.heap.size + 1 + 1 < _; (try simp only [World.size_alloc]); omega)).trans (by first | rfl | (simp; done) | (simp [*]; done) | (repeat (first | (simp; done) | (refine Bb.f (Bb.new ?_) _; (simp; done)) | refine frAl (by (try simp only [World.size_alloc]); omega) ?_)))
  have b1_2 : w.heap.size + 1 + 1 < w1.heap.size := World.block_lt_of_cell? _ _ k1_2_0
  have hW1 : Below w.heap.size w w1 := by (repeat' (first | (with_reducible exact Below.refl _ _) | (with_reducible assumption) | (with_reducible refine Below.alloc ?_ ?_ _) | (with_reducible refine Below.drew ?_) | (with_reducible refine bdN ?_ _) | (with_reducible refine Below.setCell ?_ ?_ _) | (with_reducible refine chn ?_ (by assumption) ?_) | omega | (simp; done) | (simp; omega)))
  have hy1 := hW1.size
  clear hb1
  go_wp2_with (fail)
  refine (vcs (xs := ys) HP.out ?_ HM.out hmm).mono ?_
  · exact HB.out.mono (by (repeat' (first | (with_reducible exact Below.refl _ _) | (with_reducible assumption) | (with_reducible refine Below.alloc ?_ ?_ _) | (with_reducible refine Below.drew ?_) | (with_reducible refine bdN ?_ _) | (with_reducible refine Below.setCell ?_ ?_ _) | (with_reducible refine chn ?_ (by assumption) ?_) | omega | (simp; done) | (simp; omega))))
  rintro ee w2 ⟨rfl, hb2⟩
  have hz2 := hb2.size
  (try simp only [World.size_alloc] at hz2)
  have k2_0_0 : w2.cell? ⟨w.heap.size, 0, none⟩ = some (.int .i64 a0) := (hb2.cell (p := ⟨w.heap.size, 0, none⟩) (by show w.heap.size < _; omega)).trans k1_0_0
  have k2_0_1 : w2.cell? ⟨w.heap.size, 1, none⟩ = some (.slice Ag n1 c1) := (hb2.cell (p := ⟨w.heap.size, 1, none⟩) (by show w.heap.size < _; omega)).trans k1_0_1
  have r2_0 : ∀ o, w2.frozen? ⟨w.heap.size, o, none⟩ = false := fun o => (hb2.frozen (p := ⟨w.heap.size, o, none⟩) (by show w.heap.size < _; omega)).trans (r1_0 o)
  have b2_0 : w.heap.size < w2.heap.size := World.block_lt_of_cell? _ _ k2_0_0
  have k2_1_0 : w2.cell? ⟨w.heap.size + 1, 0, none⟩ = some (.int .i64 a0) := (hb2.cell (p := ⟨w.heap.size + 1, 0, none⟩) (by show w.heap.size + 1 < _; omega)).trans k1_1_0
  have k2_1_1 : w2.cell? ⟨w.heap.size + 1, 1, none⟩ = some (.slice Ah m1 d1) := (hb2.cell (p := ⟨w.heap.size + 1, 1, none⟩) (by show w.heap.size + 1 < _; omega)).trans k1_1_1
  have r2_1 : ∀ o, w2.frozen? ⟨w.heap.size + 1, o, none⟩ = false := fun o => (hb2.frozen (p := ⟨w.heap.size + 1, o, none⟩) (by show w.heap.size + 1 < _; omega)).trans (r1_1 o)
  have b2_1 : w.heap.size + 1 < w2.heap.size := World.block_lt_of_cell? _ _ k2_1_0
  have k2_2_0 : w2.cell? ⟨w.heap.size + 1 + 1, 0, none⟩ = some (.int .i64 0) := (hb2.cell (p := ⟨w.heap.size + 1 + 1, 0, none⟩) (by show w.heap.size + 1 + 1 < _; omega)).trans k1_2_0
  have k2_2_1 : w2.cell? ⟨w.heap.size + 1 + 1, 1, none⟩ = some (.slice none 0 0) := (hb2.cell (p := ⟨w.heap.size + 1 + 1, 1, none⟩) (by show w.heap.size + 1 + 1 < _; omega)).trans k1_2_1
  have r2_2 : ∀ o, w2.frozen? ⟨w.heap.size + 1 + 1, o, none⟩ = false := fun o => (hb2.frozen (p := ⟨w.heap.size + 1 + 1, o, none⟩) (by show w.heap.size + 1 + 1 < _; omega)).trans (r1_2 o)
  have b2_2 : w.heap.size + 1 + 1 < w2.heap.size := World.block_lt_of_cell? _ _ k2_2_0
  have hW2 : Below w.heap.size w w2 := by (repeat' (first | (with_reducible exact Below.refl _ _) | (with_reducible assumption) | (with_reducible refine Below.alloc ?_ ?_ _) | (with_reducible refine Below.drew ?_) | (with_reducible refine bdN ?_ _) | (with_reducible refine Below.setCell ?_ ?_ _) | (with_reducible refine chn ?_ (by assumption) ?_) | omega | (simp; done) | (simp; omega)))
  have hy2 := hW2.size
  clear hb2
  clear k1_0_0 k1_0_1 k1_1_0 k1_1_1 k1_2_0 k1_2_1 r1_0 b1_0 r1_1 b1_1 r1_2 b1_2
  go_wp2_with (fail)
  refine bodyPost_ret (v := .tuple #[circuitV 0 none 0 0, .bool false]) (by first | (simp [results, Try.results18, go_sem, *]; done) | (simp (disch := (first | omega | (simp; done) | (simp; omega))) [results, Try.results18, go_sem, *]; done) | (simp only [results, Try.results18]; go_simp; done)) rfl ⟨rfl, ?_⟩
  (repeat' (first | (with_reducible exact Below.refl _ _) | (with_reducible assumption) | (with_reducible refine Below.alloc ?_ ?_ _) | (with_reducible refine Below.drew ?_) | (with_reducible refine bdN ?_ _) | (with_reducible refine Below.setCell ?_ ?_ _) | (with_reducible refine chn ?_ (by assumption) ?_) | omega | (simp; done) | (simp; omega)))

set_option maxRecDepth 100000 in
set_option maxHeartbeats 8000000 in
theorem sConcat_t {a0 b0 : Int} {Ag Ah : Option Addr} {n1 c1 m1 d1 : Nat} {xs ys : List GateV} {w : World} (hA : Rd gateE w Ag xs) (hPA : Pl Ag n1 c1) (hB : Rd gateE w Ah ys) (hPB : Pl Ah m1 d1) (hn : xs.length = n1) (hm : ys.length = m1) (hmn : n1 ≤ maxLen) (hmm : m1 ≤ maxLen) (ho : okC a0 n1 xs = true) (hp : okC b0 m1 ys = true) (hq : a0 = b0) (hl : n1 + m1 ≤ 400) :
    Calls Try.prog 18 #[circuitV a0 Ag n1 c1, circuitV b0 Ah m1 d1] w fun ee w' => OkR a0 (xs ++ ys) w ee w' := by
  have HPA := lay hPA
  have HPB := lay hPB
  clear hPA hPB
  obtain ⟨i0, hi0, iz0, iz1, iz2⟩ := info_parts infoGate
  subst hq
  have hl1 : ¬ ((400 : Int) < (n1 : Int) + (m1 : Int)) := by omega
  have hll : (xs ++ ys).length = n1 + m1 := by rw [List.length_append, hn, hm]
  have HLL := lay hll
  have HO := lay ho
  have HP := lay hp
  clear ho hp hll
  have HA := lay hA
  have HB := lay hB
  have HN := lay hn
  have HM := lay hm
  clear hA hB hn hm
  go_enter Try.func18, Try.ntmps18
  go_wp2_with (fail)
  refine (vcs (xs := xs) HO.out ?_ HN.out hmn).mono ?_
  · exact HA.out.mono (by (repeat' (first | (with_reducible exact Below.refl _ _) | (with_reducible assumption) | (with_reducible refine Below.alloc ?_ ?_ _) | (with_reducible refine Below.drew ?_) | (with_reducible refine bdN ?_ _) | (with_reducible refine Below.setCell ?_ ?_ _) | (with_reducible refine chn ?_ (by assumption) ?_) | omega | (simp; done) | (simp; omega))))
  rintro ee w1 ⟨rfl, hb1⟩
  have hz1 := hb1.size
  (try simp only [World.size_alloc] at hz1)
  have k1_0_0 : w1.cell? ⟨w.heap.size, 0, none⟩ = some (.int .i64 a0) := (hb1.cell (p := ⟨w.heap.size, 0, none⟩) (by show w.heap.size < _; (try simp only [World.size_alloc]); omega)).trans (by first | rfl | (simp; done) | (simp [*]; done) | (repeat (first | (simp; done) | (refine Bb.c (Bb.new ?_) _ rfl; (simp; done)) | refine kclAl ?_)))
  have k1_0_1 : w1.cell? ⟨w.heap.size, 1, none⟩ = some (.slice Ag n1 c1) := (hb1.cell (p := ⟨w.heap.size, 1, none⟩) (by show w.heap.size < _; (try simp only [World.size_alloc]); omega)).trans (by first | rfl | (simp; done) | (simp [*]; done) | (repeat (first | (simp; done) | (refine Bb.c (Bb.new ?_) _ rfl; (simp; done)) | refine kclAl ?_)))
  have r1_0 : ∀ o, w1.frozen? ⟨w.heap.size, o, none⟩ = false := fun o => (hb1.frozen (p := ⟨w.heap.size, o, none⟩) (by show w.heap.size < _; (try simp only [World.size_alloc]); omega)).trans (by first | rfl | (simp; done) | (simp [*]; done) | (repeat (first | (simp; done) | (refine Bb.f (Bb.new ?_) _; (simp; done)) | refine frAl (by (try simp only [World.size_alloc]); omega) ?_)))
  have b1_0 : w.heap.size < w1.heap.size := World.block_lt_of_cell? _ _ k1_0_0
  have k1_1_0 : w1.cell? ⟨w.heap.size + 1, 0, none⟩ = some (.int .i64 a0) := (hb1.cell (p := ⟨w.heap.size + 1, 0, none⟩) (by show w.heap.size + 1 < _; (try simp only [World.size_alloc]); omega)).trans (by first | rfl | (simp; done) | (simp [*]; done) | (repeat (first | (simp; done) | (refine Bb.c (Bb.new ?_) _ rfl; (simp; done)) | refine kclAl ?_)))
  have k1_1_1 : w1.cell? ⟨w.heap.size + 1, 1, none⟩ = some (.slice Ah m1 d1) := (hb1.cell (p := ⟨w.heap.size + 1, 1, none⟩) (by show w.heap.size + 1 < _; (try simp only [World.size_alloc]); omega)).trans (by first | rfl | (simp; done) | (simp [*]; done) | (repeat (first | (simp; done) | (refine Bb.c (Bb.new ?_) _ rfl; (simp; done)) | refine kclAl ?_)))
  have r1_1 : ∀ o, w1.frozen? ⟨w.heap.size + 1, o, none⟩ = false := fun o => (hb1.frozen (p := ⟨w.heap.size + 1, o, none⟩) (by show w.heap.size + 1 < _; (try simp only [World.size_alloc]); omega)).trans (by first | rfl | (simp; done) | (simp [*]; done) | (repeat (first | (simp; done) | (refine Bb.f (Bb.new ?_) _; (simp; done)) | refine frAl (by (try simp only [World.size_alloc]); omega) ?_)))
  have b1_1 : w.heap.size + 1 < w1.heap.size := World.block_lt_of_cell? _ _ k1_1_0
  have k1_2_0 : w1.cell? ⟨w.heap.size + 1 + 1, 0, none⟩ = some (.int .i64 0) := (hb1.cell (p := ⟨w.heap.size + 1 + 1, 0, none⟩) (by show w.heap.size + 1 + 1 < _; (try simp only [World.size_alloc]); omega)).trans (by first | rfl | (simp; done) | (simp [*]; done) | (repeat (first | (simp; done) | (refine Bb.c (Bb.new ?_) _ rfl; (simp; done)) | refine kclAl ?_)))
  have k1_2_1 : w1.cell? ⟨w.heap.size + 1 + 1, 1, none⟩ = some (.slice none 0 0) := (hb1.cell (p := ⟨w.heap.size + 1 + 1, 1, none⟩) (by show w.heap.size + 1 + 1 < _; (try simp only [World.size_alloc]); omega)).trans (by first | rfl | (simp; done) | (simp [*]; done) | (repeat (first | (simp; done) | (refine Bb.c (Bb.new ?_) _ rfl; (simp; done)) | refine kclAl ?_)))
  have r1_2 : ∀ o, w1.frozen? ⟨w.heap.size + 1 + 1, o, none⟩ = false := fun o => (hb1.frozen (p := ⟨w.heap.size + 1 + 1, o, none⟩) (by show w.heap.size + 1 + 1 < _; (try simp only [World.size_alloc]); omega)).trans (by first | rfl | (simp; done) | (simp [*]; done) | (repeat (first | (simp; done) | (refine Bb.f (Bb.new ?_) _; (simp; done)) | refine frAl (by (try simp only [World.size_alloc]); omega) ?_)))
  have b1_2 : w.heap.size + 1 + 1 < w1.heap.size := World.block_lt_of_cell? _ _ k1_2_0
  have hW1 : Below w.heap.size w w1 := by (repeat' (first | (with_reducible exact Below.refl _ _) | (with_reducible assumption) | (with_reducible refine Below.alloc ?_ ?_ _) | (with_reducible refine Below.drew ?_) | (with_reducible refine bdN ?_ _) | (with_reducible refine Below.setCell ?_ ?_ _) | (with_reducible refine chn ?_ (by assumption) ?_) | omega | (simp; done) | (simp; omega)))
  have hy1 := hW1.size
  clear hb1
  go_wp2_with (fail)
  refine (vcs (xs := ys) HP.out ?_ HM.out hmm).mono ?_
  · exact HB.out.mono (by (repeat' (first | (with_reducible exact Below.refl _ _) | (with_reducible assumption) | (with_reducible refine Below.alloc ?_ ?_ _) | (with_reducible refine Below.drew ?_) | (with_reducible refine bdN ?_ _) | (with_reducible refine Below.setCell ?_ ?_ _) | (with_reducible refine chn ?_ (by assumption) ?_) | omega | (simp; done) | (simp; omega))))
  rintro ee w2 ⟨rfl, hb2⟩
  have hz2 := hb2.size
  (try simp only [World.size_alloc] at hz2)
  have k2_0_0 : w2.cell? ⟨w.heap.size, 0, none⟩ = some (.int .i64 a0) := (hb2.cell (p := ⟨w.heap.size, 0, none⟩) (by show w.heap.size < _; omega)).trans k1_0_0
  have k2_0_1 : w2.cell? ⟨w.heap.size, 1, none⟩ = some (.slice Ag n1 c1) := (hb2.cell (p := ⟨w.heap.size, 1, none⟩) (by show w.heap.size < _; omega)).trans k1_0_1
  have r2_0 : ∀ o, w2.frozen? ⟨w.heap.size, o, none⟩ = false := fun o => (hb2.frozen (p := ⟨w.heap.size, o, none⟩) (by show w.heap.size < _; omega)).trans (r1_0 o)
  have b2_0 : w.heap.size < w2.heap.size := World.block_lt_of_cell? _ _ k2_0_0
  have k2_1_0 : w2.cell? ⟨w.heap.size + 1, 0, none⟩ = some (.int .i64 a0) := (hb2.cell (p := ⟨w.heap.size + 1, 0, none⟩) (by show w.heap.size + 1 < _; omega)).trans k1_1_0
  have k2_1_1 : w2.cell? ⟨w.heap.size + 1, 1, none⟩ = some (.slice Ah m1 d1) := (hb2.cell (p := ⟨w.heap.size + 1, 1, none⟩) (by show w.heap.size + 1 < _; omega)).trans k1_1_1
  have r2_1 : ∀ o, w2.frozen? ⟨w.heap.size + 1, o, none⟩ = false := fun o => (hb2.frozen (p := ⟨w.heap.size + 1, o, none⟩) (by show w.heap.size + 1 < _; omega)).trans (r1_1 o)
  have b2_1 : w.heap.size + 1 < w2.heap.size := World.block_lt_of_cell? _ _ k2_1_0
  have k2_2_0 : w2.cell? ⟨w.heap.size + 1 + 1, 0, none⟩ = some (.int .i64 0) := (hb2.cell (p := ⟨w.heap.size + 1 + 1, 0, none⟩) (by show w.heap.size + 1 + 1 < _; omega)).trans k1_2_0
  have k2_2_1 : w2.cell? ⟨w.heap.size + 1 + 1, 1, none⟩ = some (.slice none 0 0) := (hb2.cell (p := ⟨w.heap.size + 1 + 1, 1, none⟩) (by show w.heap.size + 1 + 1 < _; omega)).trans k1_2_1
  have r2_2 : ∀ o, w2.frozen? ⟨w.heap.size + 1 + 1, o, none⟩ = false := fun o => (hb2.frozen (p := ⟨w.heap.size + 1 + 1, o, none⟩) (by show w.heap.size + 1 + 1 < _; omega)).trans (r1_2 o)
  have b2_2 : w.heap.size + 1 + 1 < w2.heap.size := World.block_lt_of_cell? _ _ k2_2_0
  have hW2 : Below w.heap.size w w2 := by (repeat' (first | (with_reducible exact Below.refl _ _) | (with_reducible assumption) | (with_reducible refine Below.alloc ?_ ?_ _) | (with_reducible refine Below.drew ?_) | (with_reducible refine bdN ?_ _) | (with_reducible refine Below.setCell ?_ ?_ _) | (with_reducible refine chn ?_ (by assumption) ?_) | omega | (simp; done) | (simp; omega)))
  have hy2 := hW2.size
  clear hb2
  clear k1_0_0 k1_0_1 k1_1_0 k1_1_1 k1_2_0 k1_2_1 r1_0 b1_0 r1_1 b1_1 r1_2 b1_2
  go_wp2_with (fail)
  refine (lown (xs := xs) ?_ HPA.out HN.out (by omega)).mono ?_
  · exact HA.out.mono (by (repeat' (first | (with_reducible exact Below.refl _ _) | (with_reducible assumption) | (with_reducible refine Below.alloc ?_ ?_ _) | (with_reducible refine Below.drew ?_) | (with_reducible refine bdN ?_ _) | (with_reducible refine Below.setCell ?_ ?_ _) | (with_reducible refine chn ?_ (by assumption) ?_) | omega | (simp; done) | (simp; omega))))
  rintro ee w3 ⟨A3, cp3, rfl, hO3, hb3⟩
  have hz3 := hb3.size
  rw [HN.out] at hO3
  have k3_0_0 : w3.cell? ⟨w.heap.size, 0, none⟩ = some (.int .i64 a0) := (hb3.cell (p := ⟨w.heap.size, 0, none⟩) (by show w.heap.size < _; omega)).trans k2_0_0
  have k3_0_1 : w3.cell? ⟨w.heap.size, 1, none⟩ = some (.slice Ag n1 c1) := (hb3.cell (p := ⟨w.heap.size, 1, none⟩) (by show w.heap.size < _; omega)).trans k2_0_1
  have r3_0 : ∀ o, w3.frozen? ⟨w.heap.size, o, none⟩ = false := fun o => (hb3.frozen (p := ⟨w.heap.size, o, none⟩) (by show w.heap.size < _; omega)).trans (r2_0 o)
  have b3_0 : w.heap.size < w3.heap.size := World.block_lt_of_cell? _ _ k3_0_0
  have k3_1_0 : w3.cell? ⟨w.heap.size + 1, 0, none⟩ = some (.int .i64 a0) := (hb3.cell (p := ⟨w.heap.size + 1, 0, none⟩) (by show w.heap.size + 1 < _; omega)).trans k2_1_0
  have k3_1_1 : w3.cell? ⟨w.heap.size + 1, 1, none⟩ = some (.slice Ah m1 d1) := (hb3.cell (p := ⟨w.heap.size + 1, 1, none⟩) (by show w.heap.size + 1 < _; omega)).trans k2_1_1
  have r3_1 : ∀ o, w3.frozen? ⟨w.heap.size + 1, o, none⟩ = false := fun o => (hb3.frozen (p := ⟨w.heap.size + 1, o, none⟩) (by show w.heap.size + 1 < _; omega)).trans (r2_1 o)
  have b3_1 : w.heap.size + 1 < w3.heap.size := World.block_lt_of_cell? _ _ k3_1_0
  have k3_2_0 : w3.cell? ⟨w.heap.size + 1 + 1, 0, none⟩ = some (.int .i64 0) := (hb3.cell (p := ⟨w.heap.size + 1 + 1, 0, none⟩) (by show w.heap.size + 1 + 1 < _; omega)).trans k2_2_0
  have k3_2_1 : w3.cell? ⟨w.heap.size + 1 + 1, 1, none⟩ = some (.slice none 0 0) := (hb3.cell (p := ⟨w.heap.size + 1 + 1, 1, none⟩) (by show w.heap.size + 1 + 1 < _; omega)).trans k2_2_1
  have r3_2 : ∀ o, w3.frozen? ⟨w.heap.size + 1 + 1, o, none⟩ = false := fun o => (hb3.frozen (p := ⟨w.heap.size + 1 + 1, o, none⟩) (by show w.heap.size + 1 + 1 < _; omega)).trans (r2_2 o)
  have b3_2 : w.heap.size + 1 + 1 < w3.heap.size := World.block_lt_of_cell? _ _ k3_2_0
  have hW3 : Below w.heap.size w w3 := by (repeat' (first | (with_reducible exact Below.refl _ _) | (with_reducible assumption) | (with_reducible refine Below.alloc ?_ ?_ _) | (with_reducible refine Below.drew ?_) | (with_reducible refine bdN ?_ _) | (with_reducible refine Below.setCell ?_ ?_ _) | (with_reducible refine chn ?_ (by assumption) ?_) | omega | (simp; done) | (simp; omega)))
  have hy3 := hW3.size
  have HO3 := lay hO3
  have hov := hO3.lt
  have hmax : n1 + m1 ≤ maxLen := by unfold maxLen; omega
  have hby : (n1 + m1) * 24 ≤ 140737488355328 := by omega
  have ne2 : some (w.heap.size + 1 + 1) ≠ (Value.slice A3 n1 cp3).ownBlock := fun e => by have := (hov _ e.symm).1; omega
  have ne3 : some w3.heap.size ≠ (Value.slice A3 n1 cp3).ownBlock := fun e => by have := (hov _ e.symm).2; omega
  have hov1 : ∀ k, (Value.slice A3 n1 cp3).ownBlock = some k → w.heap.size ≤ k := fun k e => by have := (hov k e).1; omega
  have HOV := lay hov1
  have HOVB := lay hov
  have NE2 := lay ne2
  have NE3 := lay ne3
  rw [HN.out]
  clear hO3 hb3 hov hov1 ne2 ne3
  go_wp2_with (at_builtin; refine wpList_appO (E := gateE) rfl _ _ _ rfl w2.heap.size 81 i0 _ 24 Try.underlying40 hi0 iz0 iz1 iz2 rfl _ _ n1 HN.out (by rfl) (HO3.out.alloc _) Ah m1 d1 ys HPB.out HM.out (by rfl) (by exact HB.out.mono (by (repeat' (first | (with_reducible exact Below.refl _ _) | (with_reducible assumption) | (with_reducible refine Below.alloc ?_ ?_ _) | (with_reducible refine Below.drew ?_) | (with_reducible refine bdN ?_ _) | (with_reducible refine Below.setCell ?_ ?_ _) | (with_reducible refine chn ?_ (by assumption) ?_) | omega | (simp; done) | (simp; omega))))) hmax hby (by (try simp only [World.size_alloc]); omega) ?_; intro A2 cp2 w9 hO2 hG2 hat2; have HO2 := lay hO2; have HG2 := lay hG2; have HT2 := lay hat2; clear hO2 hG2 hat2; have hz9 := HG2.out.size; (try simp only [World.size_alloc] at hz9); have Po : Bb w9 w3.heap.size 42 _ := Bb.grown (Bb.new rfl) HG2.out NE3.out; have po0 := Po.c 0 rfl; have po1 := Po.c 1 rfl; have lpo := Po.lt; have fpo := Po.f; have k9_2_0 := (HG2.out.cell (kclAl k3_2_0) NE2.out); have k9_2_1 := (HG2.out.cell (kclAl k3_2_1) NE2.out); have b9_2 := World.block_lt_of_cell? _ _ k9_2_0; have r9_2 : ∀ o, w9.frozen? ⟨w.heap.size + 1 + 1, o, none⟩ = false := fun o => (HG2.out.frozen_far ⟨w.heap.size + 1 + 1, o, none⟩ (by (try simp only [World.size_alloc]); show w.heap.size + 1 + 1 < _; omega) NE2.out).trans (frAl (by omega) (r3_2 o)))
  have hW9 : Below w.heap.size w w9 := Below.grown (hW3.alloc (by omega) _) HG2.out (by (try simp only [World.size_alloc]); omega) HOV.out
  have hO9 : Own gateE w9 w2.heap.size 81 (.slice A2 (n1 + m1) cp2) (xs ++ ys) := HO2.out
  obtain ⟨A5, cp5, h5, hRd, hBa⟩ := hO9.form
  rw [HLL.out] at h5
  cases h5
  refine bodyPost_ret (v := .tuple #[circuitV a0 A2 (n1 + m1) cp2, .bool true]) (by first | (simp [results, Try.results18, go_sem, *]; done) | (simp (disch := (first | omega | (simp; done) | (simp; omega))) [results, Try.results18, go_sem, *]; done) | (simp only [results, Try.results18]; go_simp; done)) rfl (OkR.i HLL.out rfl ?_ ?_ ?_)
  · have R := hRd
    have hBa' : ∀ a, A2 = some a → w.heap.size + 1 + 1 + 1 ≤ a.block ∧ a.block ≠ w3.heap.size := fun a ha => by
      have h8 := (hBa a ha).1
      refine ⟨by omega, ?_⟩
      subst ha
      rcases HT2.out with e | e
      · have := (HOVB.out _ e.symm).2
        omega
      · have e2 : some a.block = some (w3.heap.size + 1) := e.trans (by simp)
        simp only [Option.some.injEq] at e2
        omega
    (repeat' (first | (with_reducible assumption) | (with_reducible refine Rd.al ?_ _) | (refine Rd.far ?_ (fun a ha => by have h9 := hBa' a ha; dsimp only; omega) _)))
  · intro a ha
    have := (hBa a ha).1
    omega
  · (repeat' (first | (with_reducible exact Below.refl _ _) | (with_reducible assumption) | (with_reducible refine Below.alloc ?_ ?_ _) | (with_reducible refine Below.drew ?_) | (with_reducible refine bdN ?_ _) | (with_reducible refine Below.setCell ?_ ?_ _) | (with_reducible refine chn ?_ (by assumption) ?_) | omega | (simp; done) | (simp; omega)))

end Go.Proofs.Ytdbnjoeanoiifaa
