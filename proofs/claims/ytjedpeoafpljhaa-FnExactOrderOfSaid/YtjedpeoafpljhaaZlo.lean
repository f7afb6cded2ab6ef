/- E8k, LwOrderOf -/
import Derived.Test.YtjedpeoafpljhaaE8i
import Derived.Test.YtjedpeoafpljhaaE8j
import Derived.Deep.RegionHeld3
import Derived.Deep.DeepCutAuto
namespace Go.Proofs.Ytjedpeoafpljhaa.C4
open Go.RowKit
set_option linter.unusedVariables false
set_option linter.unusedSimpArgs false
attribute [local irreducible] World.setCell

set_option maxRecDepth 100000 in
set_option maxHeartbeats 4000000 in
theorem or_i_f {a0 : Int} {g h n1 n2 c1 c2 : Nat} {xs zs : List PauliV} {w : World} (hf : ¬ TOk a0 n1 n2 xs zs) (hA : Rd pauliE w (some ⟨g, 0, none⟩) xs) (hB : Rd pauliE w (some ⟨h, 0, none⟩) zs) (hn : xs.length = n1) (hm : zs.length = n2) (hb1 : n1 ≤ maxLen) (hb2 : n2 ≤ maxLen) :
    Calls Try.prog 55 #[tableauV a0 (some ⟨g, 0, none⟩) n1 c1 (some ⟨h, 0, none⟩) n2 c2] w fun ee w' => ee = .returned (.tuple #[.int .i64 0, .bool false]) ∧ Below w.heap.size w w' := by
  have HA := lay hA
  have HB := lay hB
  have HT := lay hf
  clear hA hB hf
  go_enter Try.func55, Try.ntmps55
  go_wp2_with (fail)
  refine (ivt_i (t := false) (xs := xs) (zs := zs) ⟨fun h => (by cases h), fun h => absurd h HT.out⟩ ?_ ?_ hn hm hb1 hb2).mono ?_
  · exact HA.out.mono (by (repeat' (first | (with_reducible exact Below.refl _ _) | (with_reducible assumption) | (with_reducible refine Below.alloc ?_ ?_ _) | (with_reducible refine Below.drew ?_) | (with_reducible refine bdN ?_ _) | (with_reducible refine Below.setCell ?_ ?_ _) | (with_reducible refine chn ?_ (by assumption) ?_) | omega | (simp; done) | (simp; omega))))
  · exact HB.out.mono (by (repeat' (first | (with_reducible exact Below.refl _ _) | (with_reducible assumption) | (with_reducible refine Below.alloc ?_ ?_ _) | (with_reducible refine Below.drew ?_) | (with_reducible refine bdN ?_ _) | (with_reducible refine Below.setCell ?_ ?_ _) | (with_reducible refine chn ?_ (by assumption) ?_) | omega | (simp; done) | (simp; omega))))
  rintro ee w1 ⟨rfl, hb1⟩
  have hz1 := hb1.size
  (try simp only [World.size_alloc] at hz1)
  have Yt : Hid (Bb w1 (w.heap.size) 53 #[.int .i64 a0, .slice (some ⟨g, 0, none⟩) n1 c1, .slice (some ⟨h, 0, none⟩) n2 c2]) := by show Bb _ _ _ _; (repeat' (first | (with_reducible assumption) | (refine Bb.new (by first | (with_reducible rfl) | (simp; done))) | (with_reducible refine Bb.alloc ?_ _) | (with_reducible refine Bb.drew ?_) | (with_reducible refine Bb.drewN ?_ _) | (with_reducible refine Bb.mono ?_ (by assumption)) | (with_reducible refine Bb.far ?_ (by (try simp only [World.size_alloc, World.size_drew]); omega)) | (with_reducible refine Bb.set ?_ rfl) | (with_reducible refine Bb.grown ?_ (by assumption) (by assumption))))
  (try clear Rt)
  (try clear Xt)
  have Xt := Yt
  clear Yt
  have hB1 : Below w.heap.size w w1 := by (repeat' (first | (with_reducible exact Below.refl _ _) | (with_reducible assumption) | (with_reducible refine Below.alloc ?_ ?_ _) | (with_reducible refine Below.drew ?_) | (with_reducible refine bdN ?_ _) | (with_reducible refine Below.setCell ?_ ?_ _) | (with_reducible refine chn ?_ (by assumption) ?_) | omega | (simp; done) | (simp; omega)))
  clear hb1
  have ct0 := Xt.out.c 0 rfl
  have ct1 := Xt.out.c 1 rfl
  have ct2 := Xt.out.c 2 rfl
  have lt := Xt.out.lt
  go_wp2_with (fail)
  refine bodyPost_ret (v := .tuple #[.int .i64 0, .bool false]) (by first | (simp [results, Try.results55, go_sem, *]; done) | (simp (disch := (first | omega | (simp; done) | (simp; omega))) [results, Try.results55, go_sem, *]; done) | (simp only [results, Try.results55]; go_simp; done)) rfl ⟨rfl, ?_⟩
  (repeat' (first | (with_reducible exact Below.refl _ _) | (with_reducible assumption) | (with_reducible refine Below.alloc ?_ ?_ _) | (with_reducible refine Below.drew ?_) | (with_reducible refine bdN ?_ _) | (with_reducible refine Below.setCell ?_ ?_ _) | (with_reducible refine chn ?_ (by assumption) ?_) | omega | (simp; done) | (simp; omega)))

set_option maxRecDepth 100000 in
set_option maxHeartbeats 4000000 in
theorem or_s_f {a0 : Int} {g h n1 n2 c1 c2 : Nat} {xs zs : List PauliV} {w : World} (hf : ¬ TOk a0 n1 n2 xs zs) (hA : Rd pauliE w (some ⟨g, 0, none⟩) xs) (hB : Rd pauliE w (some ⟨h, 0, none⟩) zs) (hn : xs.length = n1) (hm : zs.length = n2) (hb1 : n1 ≤ maxLen) (hb2 : n2 ≤ maxLen) :
    Calls Try.prog 54 #[tableauV a0 (some ⟨g, 0, none⟩) n1 c1 (some ⟨h, 0, none⟩) n2 c2] w fun ee w' => ee = .returned (.tuple #[.int .i64 0, .bool false]) ∧ Below w.heap.size w w' := by
  have HA := lay hA
  have HB := lay hB
  have HT := lay hf
  clear hA hB hf
  go_enter Try.func54, Try.ntmps54
  go_wp2_with (fail)
  refine (gvs (t := false) (xs := xs) (zs := zs) ⟨fun h => (by cases h), fun h => absurd h HT.out⟩ ?_ ?_ hn hm hb1 hb2).mono ?_
  · exact HA.out.mono (by (repeat' (first | (with_reducible exact Below.refl _ _) | (with_reducible assumption) | (with_reducible refine Below.alloc ?_ ?_ _) | (with_reducible refine Below.drew ?_) | (with_reducible refine bdN ?_ _) | (with_reducible refine Below.setCell ?_ ?_ _) | (with_reducible refine chn ?_ (by assumption) ?_) | omega | (simp; done) | (simp; omega))))
  · exact HB.out.mono (by (repeat' (first | (with_reducible exact Below.refl _ _) | (with_reducible assumption) | (with_reducible refine Below.alloc ?_ ?_ _) | (with_reducible refine Below.drew ?_) | (with_reducible refine bdN ?_ _) | (with_reducible refine Below.setCell ?_ ?_ _) | (with_reducible refine chn ?_ (by assumption) ?_) | omega | (simp; done) | (simp; omega))))
  rintro ee w1 ⟨rfl, hb1⟩
  have hz1 := hb1.size
  (try simp only [World.size_alloc] at hz1)
  have Yt : Hid (Bb w1 (w.heap.size) 53 #[.int .i64 a0, .slice (some ⟨g, 0, none⟩) n1 c1, .slice (some ⟨h, 0, none⟩) n2 c2]) := by show Bb _ _ _ _; (repeat' (first | (with_reducible assumption) | (refine Bb.new (by first | (with_reducible rfl) | (simp; done))) | (with_reducible refine Bb.alloc ?_ _) | (with_reducible refine Bb.drew ?_) | (with_reducible refine Bb.drewN ?_ _) | (with_reducible refine Bb.mono ?_ (by assumption)) | (with_reducible refine Bb.far ?_ (by (try simp only [World.size_alloc, World.size_drew]); omega)) | (with_reducible refine Bb.set ?_ rfl) | (with_reducible refine Bb.grown ?_ (by assumption) (by assumption))))
  (try clear Rt)
  (try clear Xt)
  have Xt := Yt
  clear Yt
  have hB1 : Below w.heap.size w w1 := by (repeat' (first | (with_reducible exact Below.refl _ _) | (with_reducible assumption) | (with_reducible refine Below.alloc ?_ ?_ _) | (with_reducible refine Below.drew ?_) | (with_reducible refine bdN ?_ _) | (with_reducible refine Below.setCell ?_ ?_ _) | (with_reducible refine chn ?_ (by assumption) ?_) | omega | (simp; done) | (simp; omega)))
  clear hb1
  have ct0 := Xt.out.c 0 rfl
  have ct1 := Xt.out.c 1 rfl
  have ct2 := Xt.out.c 2 rfl
  have lt := Xt.out.lt
  go_wp2_with (fail)
  refine bodyPost_ret (v := .tuple #[.int .i64 0, .bool false]) (by first | (simp [results, Try.results54, go_sem, *]; done) | (simp (disch := (first | omega | (simp; done) | (simp; omega))) [results, Try.results54, go_sem, *]; done) | (simp only [results, Try.results54]; go_simp; done)) rfl ⟨rfl, ?_⟩
  (repeat' (first | (with_reducible exact Below.refl _ _) | (with_reducible assumption) | (with_reducible refine Below.alloc ?_ ?_ _) | (with_reducible refine Below.drew ?_) | (with_reducible refine bdN ?_ _) | (with_reducible refine Below.setCell ?_ ?_ _) | (with_reducible refine chn ?_ (by assumption) ?_) | omega | (simp; done) | (simp; omega)))

end Go.Proofs.Ytjedpeoafpljhaa.C4
namespace Go.Proofs.Ytjedpeoafpljhaa.C4
open Go.RowKit
set_option linter.unusedVariables false
set_option linter.unusedSimpArgs false
attribute [local irreducible] World.setCell

set_option maxRecDepth 100000 in
set_option maxHeartbeats 4000000 in
theorem bigOrderOf0 {a0p0 : Int} {A1p0 : Option Addr} {n1p0 c1p0 : Nat} {A2p0 : Option Addr} {n2p0 c2p0 : Nat} {w : World} (hb : 1048576 < (n1p0 : Int) + (n2p0 : Int)) (hmn1p0 : n1p0 ≤ maxLen) (hmn2p0 : n2p0 ≤ maxLen) :
    Calls Try.prog 12 #[(tableauV a0p0 A1p0 n1p0 c1p0 A2p0 n2p0 c2p0)] w fun ee w' => ee = .returned (.bool true) ∧ Below w.heap.size w w' := by
  have hb0 : 1048576 < (n1p0 : Int) + (n2p0 : Int) := by omega
  have hb1 : 1048576 ≤ (1048576 : Int) := by omega
  have hb2 : (0 : Int) ≤ 1048576 := by omega
  go_enter Try.func12, Try.ntmps12
  go_wp2_with (fail)
  refine (szTableau_f hb0 hb1 hb2 hmn1p0 hmn2p0).mono ?_
  rintro ee v ⟨rfl, hv⟩
  go_wp2_with (fail)
  go_ret
  refine ⟨rfl, ?_⟩
  (repeat' (first | (with_reducible exact Below.refl _ _) | (with_reducible assumption) | (with_reducible refine Below.alloc ?_ ?_ _) | (with_reducible refine Below.drew ?_) | (with_reducible refine bdN ?_ _) | (with_reducible refine Below.setCell ?_ ?_ _) | (with_reducible refine chn ?_ (by assumption) ?_) | omega | (simp; done) | (simp; omega)))

set_option maxRecDepth 100000 in
set_option maxHeartbeats 16000000 in
theorem lwOrderOf {a0p0 : Int} {A1p0 : Option Addr} {n1p0 c1p0 : Nat} {A2p0 : Option Addr} {n2p0 c2p0 : Nat} {xs1p0 : List PauliV} {xs2p0 : List PauliV} {r0 : Int} {r1 : Bool} {w : World} (hS : ∀ (g1p0 g2p0 : Nat) (w : World), Rd pauliE w (some ⟨g1p0, 0, none⟩) xs1p0 → Rd pauliE w (some ⟨g2p0, 0, none⟩) xs2p0 → Calls Try.prog 54 #[tableauV a0p0 (some ⟨g1p0, 0, none⟩) n1p0 n1p0 (some ⟨g2p0, 0, none⟩) n2p0 n2p0] w fun ee w' => ee = .returned (.tuple #[.int .i64 r0, .bool r1]) ∧ Below w.heap.size w w') (hI : ∀ (g1p0 g2p0 : Nat) (w : World), Rd pauliE w (some ⟨g1p0, 0, none⟩) xs1p0 → Rd pauliE w (some ⟨g2p0, 0, none⟩) xs2p0 → Calls Try.prog 55 #[tableauV a0p0 (some ⟨g1p0, 0, none⟩) n1p0 n1p0 (some ⟨g2p0, 0, none⟩) n2p0 n2p0] w fun ee w' => ee = .returned (.tuple #[.int .i64 r0, .bool r1]) ∧ Below w.heap.size w w') (hA1p0 : Rd pauliE w A1p0 xs1p0) (hn1p0 : xs1p0.length = n1p0) (hb1p0 : (n1p0 : Int) ≤ 1048576) (hA2p0 : Rd pauliE w A2p0 xs2p0) (hn2p0 : xs2p0.length = n2p0) (hb2p0 : (n2p0 : Int) ≤ 1048576 - (n1p0 : Int)) :
    Calls Try.prog 12 #[(tableauV a0p0 A1p0 n1p0 c1p0 A2p0 n2p0 c2p0)] w fun ee w' => ee = .returned (.bool true) ∧ Below w.heap.size w w' := by
  have HAA1p0 := lay hA1p0
  have HN1p0 := lay hn1p0
  have HAA2p0 := lay hA2p0
  have HN2p0 := lay hn2p0
  have HS := lay hS
  have HI := lay hI
  have u0 : ¬ (1048576 - (n1p0 : Int) < 0) := by omega
  have v0 : 0 ≤ 1048576 - (n1p0 : Int) := by omega
  have s0 : (n1p0 : Int) ≤ 1048576 := by omega
  have t0 : 1048576 ≤ (1048576 : Int) := by omega
  have bn1p0 : n1p0 ≤ 1048576 := by omega
  have u1 : ¬ (1048576 - (n1p0 : Int) - (n2p0 : Int) < 0) := by omega
  have v1 : 0 ≤ 1048576 - (n1p0 : Int) - (n2p0 : Int) := by omega
  have s1 : (n2p0 : Int) ≤ 1048576 - (n1p0 : Int) := by omega
  have t1 : 1048576 - (n1p0 : Int) ≤ (1048576 : Int) := by omega
  have bn2p0 : n2p0 ≤ 1048576 := by omega
  have um0 : ¬ (1 + 3 * (n1p0 : Int) < 0) := by omega
  have vm0 : 0 ≤ 1 + 3 * (n1p0 : Int) := by omega
  have wm0 : 1 + 3 * (n1p0 : Int) ≤ 100000000 := by omega
  have um1 : ¬ (1 + 3 * (n1p0 : Int) + 3 * (n2p0 : Int) < 0) := by omega
  have vm1 : 0 ≤ 1 + 3 * (n1p0 : Int) + 3 * (n2p0 : Int) := by omega
  have wm1 : 1 + 3 * (n1p0 : Int) + 3 * (n2p0 : Int) ≤ 100000000 := by omega
  clear hS hI hA1p0 hn1p0 hA2p0 hn2p0
  go_enter Try.func12, Try.ntmps12
  go_wp2_with (fail)
  refine (szTableau_t s0 s1 t0).mono ?_
  rintro ee w1 ⟨rfl, hb1⟩
  have hL1 : Below w.heap.size w w1 := by (repeat' (first | (with_reducible exact Below.refl _ _) | (with_reducible assumption) | (with_reducible refine Below.alloc ?_ ?_ _) | (with_reducible refine Below.drew ?_) | (with_reducible refine bdN ?_ _) | (with_reducible refine Below.setCell ?_ ?_ _) | (with_reducible refine chn ?_ (by assumption) ?_) | omega | (simp; done) | (simp; omega)))
  have hz1 := hb1.size
  (try simp only [World.size_alloc] at hz1)
  have hB1 : Below w.heap.size w w1 := hL1
  have k1_0_0 : w1.cell? ⟨w.heap.size, 0, none⟩ = some (.int .i64 a0p0) := (hb1.cell (p := ⟨w.heap.size, 0, none⟩) (by show w.heap.size < _; (try simp only [World.size_alloc]); omega)).trans (by first | rfl | (simp; done) | (simp [*]; done))
  have k1_0_1 : w1.cell? ⟨w.heap.size, 1, none⟩ = some (.slice (A1p0) n1p0 c1p0) := (hb1.cell (p := ⟨w.heap.size, 1, none⟩) (by show w.heap.size < _; (try simp only [World.size_alloc]); omega)).trans (by first | rfl | (simp; done) | (simp [*]; done))
  have k1_0_2 : w1.cell? ⟨w.heap.size, 2, none⟩ = some (.slice (A2p0) n2p0 c2p0) := (hb1.cell (p := ⟨w.heap.size, 2, none⟩) (by show w.heap.size < _; (try simp only [World.size_alloc]); omega)).trans (by first | rfl | (simp; done) | (simp [*]; done))
  have bl1_0 : w.heap.size < w1.heap.size := World.block_lt_of_cell? _ _ k1_0_0
  clear hb1 hL1
  go_wp2_with (fail)
  refine (toTableau ?_ ?_ HN1p0.out bn1p0 HN2p0.out bn2p0).mono ?_
  · exact HAA1p0.out.mono (by (repeat' (first | (with_reducible exact Below.refl _ _) | (with_reducible assumption) | (with_reducible refine Below.alloc ?_ ?_ _) | (with_reducible refine Below.drew ?_) | (with_reducible refine bdN ?_ _) | (with_reducible refine Below.setCell ?_ ?_ _) | (with_reducible refine chn ?_ (by assumption) ?_) | omega | (simp; done) | (simp; omega))))
  · exact HAA2p0.out.mono (by (repeat' (first | (with_reducible exact Below.refl _ _) | (with_reducible assumption) | (with_reducible refine Below.alloc ?_ ?_ _) | (with_reducible refine Below.drew ?_) | (with_reducible refine bdN ?_ _) | (with_reducible refine Below.setCell ?_ ?_ _) | (with_reducible refine chn ?_ (by assumption) ?_) | omega | (simp; done) | (simp; omega))))
  rintro ee w2 ⟨g2_1, g2_2, rfl, hK2_1, hK2_2, hg2_1, hg2_2, hb2⟩
  have hL2 : Below w1.heap.size w1 w2 := by (repeat' (first | (with_reducible exact Below.refl _ _) | (with_reducible assumption) | (with_reducible refine Below.alloc ?_ ?_ _) | (with_reducible refine Below.drew ?_) | (with_reducible refine bdN ?_ _) | (with_reducible refine Below.setCell ?_ ?_ _) | (with_reducible refine chn ?_ (by assumption) ?_) | omega | (simp; done) | (simp; omega)))
  have hz2 := hb2.size
  (try simp only [World.size_alloc] at hz2)
  have hB2 : Below w.heap.size w w2 := chn hB1 hL2 hB1.size
  have k2_0_0 : w2.cell? ⟨w.heap.size, 0, none⟩ = some (.int .i64 a0p0) := (hL2.cell (p := ⟨w.heap.size, 0, none⟩) (by show w.heap.size < w1.heap.size; omega)).trans k1_0_0
  have k2_0_1 : w2.cell? ⟨w.heap.size, 1, none⟩ = some (.slice (A1p0) n1p0 c1p0) := (hL2.cell (p := ⟨w.heap.size, 1, none⟩) (by show w.heap.size < w1.heap.size; omega)).trans k1_0_1
  have k2_0_2 : w2.cell? ⟨w.heap.size, 2, none⟩ = some (.slice (A2p0) n2p0 c2p0) := (hL2.cell (p := ⟨w.heap.size, 2, none⟩) (by show w.heap.size < w1.heap.size; omega)).trans k1_0_2
  have bl2_0 : w.heap.size < w2.heap.size := World.block_lt_of_cell? _ _ k2_0_0
  clear hb2 hL2
  clear k1_0_0 k1_0_1 k1_0_2
  (try simp only [World.size_alloc] at hg2_1)
  have HR02 := lay hK2_1
  clear hK2_1
  have HR12 := lay hK2_2
  clear hK2_2
  go_wp2_with (fail)
  refine (HS.out _ _ _ ?_ ?_).mono ?_
  · exact HR02.out.rd.mono (by (repeat' (first | (with_reducible exact Below.refl _ _) | (with_reducible assumption) | (with_reducible refine Below.alloc ?_ ?_ _) | (with_reducible refine Below.drew ?_) | (with_reducible refine bdN ?_ _) | (with_reducible refine Below.setCell ?_ ?_ _) | (with_reducible refine chn ?_ (by assumption) ?_) | omega | (simp; done) | (simp; omega))))
  · exact HR12.out.rd.mono (by (repeat' (first | (with_reducible exact Below.refl _ _) | (with_reducible assumption) | (with_reducible refine Below.alloc ?_ ?_ _) | (with_reducible refine Below.drew ?_) | (with_reducible refine bdN ?_ _) | (with_reducible refine Below.setCell ?_ ?_ _) | (with_reducible refine chn ?_ (by assumption) ?_) | omega | (simp; done) | (simp; omega))))
  rintro ee w3 ⟨rfl, hb3⟩
  have hL3 : Below w2.heap.size w2 w3 := by (repeat' (first | (with_reducible exact Below.refl _ _) | (with_reducible assumption) | (with_reducible refine Below.alloc ?_ ?_ _) | (with_reducible refine Below.drew ?_) | (with_reducible refine bdN ?_ _) | (with_reducible refine Below.setCell ?_ ?_ _) | (with_reducible refine chn ?_ (by assumption) ?_) | omega | (simp; done) | (simp; omega)))
  have hz3 := hb3.size
  (try simp only [World.size_alloc] at hz3)
  have hB3 : Below w.heap.size w w3 := chn hB2 hL3 hB2.size
  have k3_0_0 : w3.cell? ⟨w.heap.size, 0, none⟩ = some (.int .i64 a0p0) := (hL3.cell (p := ⟨w.heap.size, 0, none⟩) (by show w.heap.size < w2.heap.size; omega)).trans k2_0_0
  have k3_0_1 : w3.cell? ⟨w.heap.size, 1, none⟩ = some (.slice (A1p0) n1p0 c1p0) := (hL3.cell (p := ⟨w.heap.size, 1, none⟩) (by show w.heap.size < w2.heap.size; omega)).trans k2_0_1
  have k3_0_2 : w3.cell? ⟨w.heap.size, 2, none⟩ = some (.slice (A2p0) n2p0 c2p0) := (hL3.cell (p := ⟨w.heap.size, 2, none⟩) (by show w.heap.size < w2.heap.size; omega)).trans k2_0_2
  have bl3_0 : w.heap.size < w3.heap.size := World.block_lt_of_cell? _ _ k3_0_0
  have HR03 := lay (HR02.out.mono hL3)
  have HR13 := lay (HR12.out.mono hL3)
  clear hb3 hL3
  clear k2_0_0 k2_0_1 k2_0_2 HR02 HR12
  clear HR03
  clear HR13
  go_wp2_with (fail)
  refine (toTableau ?_ ?_ HN1p0.out bn1p0 HN2p0.out bn2p0).mono ?_
  · exact HAA1p0.out.mono (by (repeat' (first | (with_reducible exact Below.refl _ _) | (with_reducible assumption) | (with_reducible refine Below.alloc ?_ ?_ _) | (with_reducible refine Below.drew ?_) | (with_reducible refine bdN ?_ _) | (with_reducible refine Below.setCell ?_ ?_ _) | (with_reducible refine chn ?_ (by assumption) ?_) | omega | (simp; done) | (simp; omega))))
  · exact HAA2p0.out.mono (by (repeat' (first | (with_reducible exact Below.refl _ _) | (with_reducible assumption) | (with_reducible refine Below.alloc ?_ ?_ _) | (with_reducible refine Below.drew ?_) | (with_reducible refine bdN ?_ _) | (with_reducible refine Below.setCell ?_ ?_ _) | (with_reducible refine chn ?_ (by assumption) ?_) | omega | (simp; done) | (simp; omega))))
  rintro ee w4 ⟨g4_1, g4_2, rfl, hK4_1, hK4_2, hg4_1, hg4_2, hb4⟩
  have hL4 : Below w3.heap.size w3 w4 := by (repeat' (first | (with_reducible exact Below.refl _ _) | (with_reducible assumption) | (with_reducible refine Below.alloc ?_ ?_ _) | (with_reducible refine Below.drew ?_) | (with_reducible refine bdN ?_ _) | (with_reducible refine Below.setCell ?_ ?_ _) | (with_reducible refine chn ?_ (by assumption) ?_) | omega | (simp; done) | (simp; omega)))
  have hz4 := hb4.size
  (try simp only [World.size_alloc] at hz4)
  have hB4 : Below w.heap.size w w4 := chn hB3 hL4 hB3.size
  have k4_0_0 : w4.cell? ⟨w.heap.size, 0, none⟩ = some (.int .i64 a0p0) := (hL4.cell (p := ⟨w.heap.size, 0, none⟩) (by show w.heap.size < w3.heap.size; omega)).trans k3_0_0
  have k4_0_1 : w4.cell? ⟨w.heap.size, 1, none⟩ = some (.slice (A1p0) n1p0 c1p0) := (hL4.cell (p := ⟨w.heap.size, 1, none⟩) (by show w.heap.size < w3.heap.size; omega)).trans k3_0_1
  have k4_0_2 : w4.cell? ⟨w.heap.size, 2, none⟩ = some (.slice (A2p0) n2p0 c2p0) := (hL4.cell (p := ⟨w.heap.size, 2, none⟩) (by show w.heap.size < w3.heap.size; omega)).trans k3_0_2
  have bl4_0 : w.heap.size < w4.heap.size := World.block_lt_of_cell? _ _ k4_0_0
  clear hb4 hL4
  clear k3_0_0 k3_0_1 k3_0_2
  (try simp only [World.size_alloc] at hg4_1)
  have HX24 : Hid (Ow pauliE w4 (w3.heap.size) 43 (some ⟨g4_1, 0, none⟩) xs1p0) := hK4_1.ow (by omega)
  clear hK4_1
  have hr_X2 := HX24.out.row
  have HX34 : Hid (Ow pauliE w4 (g4_1 + 1) 43 (some ⟨g4_2, 0, none⟩) xs2p0) := hK4_2.ow (by omega)
  clear hK4_2
  have hr_X3 := HX34.out.row
  have hne_X2 : ∀ r, blk (some ⟨g4_1, 0, none⟩) = some r → blk (some ⟨g4_2, 0, none⟩) ≠ some r := fun r h1 h2 => by cases h1; cases h2; omega
  go_wp2_with (fail)
  refine (HI.out _ _ _ ?_ ?_).mono ?_
  · exact HX24.out.rd.mono (by (repeat' (first | (with_reducible exact Below.refl _ _) | (with_reducible assumption) | (with_reducible refine Below.alloc ?_ ?_ _) | (with_reducible refine Below.drew ?_) | (with_reducible refine bdN ?_ _) | (with_reducible refine Below.setCell ?_ ?_ _) | (with_reducible refine chn ?_ (by assumption) ?_) | omega | (simp; done) | (simp; omega))))
  · exact HX34.out.rd.mono (by (repeat' (first | (with_reducible exact Below.refl _ _) | (with_reducible assumption) | (with_reducible refine Below.alloc ?_ ?_ _) | (with_reducible refine Below.drew ?_) | (with_reducible refine bdN ?_ _) | (with_reducible refine Below.setCell ?_ ?_ _) | (with_reducible refine chn ?_ (by assumption) ?_) | omega | (simp; done) | (simp; omega))))
  rintro ee w5 ⟨rfl, hb5⟩
  have hL5 : Below w4.heap.size w4 w5 := by (repeat' (first | (with_reducible exact Below.refl _ _) | (with_reducible assumption) | (with_reducible refine Below.alloc ?_ ?_ _) | (with_reducible refine Below.drew ?_) | (with_reducible refine bdN ?_ _) | (with_reducible refine Below.setCell ?_ ?_ _) | (with_reducible refine chn ?_ (by assumption) ?_) | omega | (simp; done) | (simp; omega)))
  have hz5 := hb5.size
  (try simp only [World.size_alloc] at hz5)
  have hB5 : Below w.heap.size w w5 := chn hB4 hL5 hB4.size
  have k5_0_0 : w5.cell? ⟨w.heap.size, 0, none⟩ = some (.int .i64 a0p0) := (hL5.cell (p := ⟨w.heap.size, 0, none⟩) (by show w.heap.size < w4.heap.size; omega)).trans k4_0_0
  have k5_0_1 : w5.cell? ⟨w.heap.size, 1, none⟩ = some (.slice (A1p0) n1p0 c1p0) := (hL5.cell (p := ⟨w.heap.size, 1, none⟩) (by show w.heap.size < w4.heap.size; omega)).trans k4_0_1
  have k5_0_2 : w5.cell? ⟨w.heap.size, 2, none⟩ = some (.slice (A2p0) n2p0 c2p0) := (hL5.cell (p := ⟨w.heap.size, 2, none⟩) (by show w.heap.size < w4.heap.size; omega)).trans k4_0_2
  have k5_1_0 : w5.cell? ⟨w4.heap.size, 0, none⟩ = some (.int .i64 a0p0) := (hb5.cell (p := ⟨w4.heap.size, 0, none⟩) (by show w4.heap.size < _; (try simp only [World.size_alloc]); omega)).trans (by first | rfl | (simp; done) | (simp [*]; done))
  have k5_1_1 : w5.cell? ⟨w4.heap.size, 1, none⟩ = some (.slice (some ⟨g4_1, 0, none⟩) n1p0 n1p0) := (hb5.cell (p := ⟨w4.heap.size, 1, none⟩) (by show w4.heap.size < _; (try simp only [World.size_alloc]); omega)).trans (by first | rfl | (simp; done) | (simp [*]; done))
  have k5_1_2 : w5.cell? ⟨w4.heap.size, 2, none⟩ = some (.slice (some ⟨g4_2, 0, none⟩) n2p0 n2p0) := (hb5.cell (p := ⟨w4.heap.size, 2, none⟩) (by show w4.heap.size < _; (try simp only [World.size_alloc]); omega)).trans (by first | rfl | (simp; done) | (simp [*]; done))
  have bl5_0 : w.heap.size < w5.heap.size := World.block_lt_of_cell? _ _ k5_0_0
  have bl5_1 : w4.heap.size < w5.heap.size := World.block_lt_of_cell? _ _ k5_1_0
  have HX25 := lay (HX24.out.mono hL5)
  have HX35 := lay (HX34.out.mono hL5)
  clear hb5 hL5
  clear k4_0_0 k4_0_1 k4_0_2 HX24 HX34
  go_wp2_with (fail)
  go_cut [39] (fun s39 wx => (s39 = .bool false) ∧ (wx.cell? ⟨w.heap.size, 0, none⟩ = some (.int .i64 a0p0) ∧ wx.cell? ⟨w.heap.size, 1, none⟩ = some (.slice (A1p0) n1p0 c1p0) ∧ wx.cell? ⟨w.heap.size, 2, none⟩ = some (.slice (A2p0) n2p0 c2p0) ∧ wx.cell? ⟨w4.heap.size, 0, none⟩ = some (.int .i64 a0p0) ∧ wx.cell? ⟨w4.heap.size, 1, none⟩ = some (.slice (some ⟨g4_1, 0, none⟩) n1p0 n1p0) ∧ wx.cell? ⟨w4.heap.size, 2, none⟩ = some (.slice (some ⟨g4_2, 0, none⟩) n2p0 n2p0) ∧ Hid (Ow pauliE wx (w3.heap.size) 43 (some ⟨g4_1, 0, none⟩) xs1p0) ∧ Hid (Ow pauliE wx (g4_1 + 1) 43 (some ⟨g4_2, 0, none⟩) xs2p0) ∧ w5.heap.size ≤ wx.heap.size ∧ Below w.heap.size w wx))
  case first =>
    have yk5_0_0 : w5.drew.cell? ⟨w.heap.size, 0, none⟩ = some (.int .i64 a0p0) := k5_0_0
    have yk5_0_1 : w5.drew.cell? ⟨w.heap.size, 1, none⟩ = some (.slice (A1p0) n1p0 c1p0) := k5_0_1
    have yk5_0_2 : w5.drew.cell? ⟨w.heap.size, 2, none⟩ = some (.slice (A2p0) n2p0 c2p0) := k5_0_2
    have yk5_1_0 : w5.drew.cell? ⟨w4.heap.size, 0, none⟩ = some (.int .i64 a0p0) := k5_1_0
    have yk5_1_1 : w5.drew.cell? ⟨w4.heap.size, 1, none⟩ = some (.slice (some ⟨g4_1, 0, none⟩) n1p0 n1p0) := k5_1_1
    have yk5_1_2 : w5.drew.cell? ⟨w4.heap.size, 2, none⟩ = some (.slice (some ⟨g4_2, 0, none⟩) n2p0 n2p0) := k5_1_2
    have hBz := hB5.size
    go_region_held3 (fun w' => w'.cell? ⟨w.heap.size, 0, none⟩ = some (.int .i64 a0p0) ∧ w'.cell? ⟨w.heap.size, 1, none⟩ = some (.slice (A1p0) n1p0 c1p0) ∧ w'.cell? ⟨w.heap.size, 2, none⟩ = some (.slice (A2p0) n2p0 c2p0) ∧ w'.cell? ⟨w4.heap.size, 0, none⟩ = some (.int .i64 a0p0) ∧ w'.cell? ⟨w4.heap.size, 1, none⟩ = some (.slice (some ⟨g4_1, 0, none⟩) n1p0 n1p0) ∧ w'.cell? ⟨w4.heap.size, 2, none⟩ = some (.slice (some ⟨g4_2, 0, none⟩) n2p0 n2p0)) (first | (with_reducible exact ⟨yk5_0_0, yk5_0_1, yk5_0_2, yk5_1_0, yk5_1_1, yk5_1_2⟩) | (with_reducible exact ⟨k5_0_0, k5_0_1, k5_0_2, k5_1_0, k5_1_1, k5_1_2⟩) | (go_split_ands; with_reducible exact ⟨kcl hv0 (by with_reducible assumption), kcl hv0 (by with_reducible assumption), kcl hv0 (by with_reducible assumption), kcl hv0 (by with_reducible assumption), kcl hv0 (by with_reducible assumption), kcl hv0 (by with_reducible assumption)⟩) | (go_split_ands; with_reducible exact ⟨kcl hv1 (by with_reducible assumption), kcl hv1 (by with_reducible assumption), kcl hv1 (by with_reducible assumption), kcl hv1 (by with_reducible assumption), kcl hv1 (by with_reducible assumption), kcl hv1 (by with_reducible assumption)⟩)) (first | (go_at_call 40; ((with_reducible refine (toTableau (xs1 := xs1p0) (xs2 := xs2p0) ?_ ?_ HN1p0.out bn1p0 HN2p0.out bn2p0).mono ?_); (exact HAA1p0.out.mono (by (repeat' (first | (with_reducible exact Below.refl _ _) | (with_reducible assumption) | (with_reducible refine Below.alloc ?_ ?_ _) | (with_reducible refine Below.drew ?_) | (with_reducible refine bdN ?_ _) | (with_reducible refine Below.setCell ?_ ?_ _) | (with_reducible refine chn ?_ (by assumption) ?_) | omega | (simp; done) | (simp; omega))))); (exact HAA2p0.out.mono (by (repeat' (first | (with_reducible exact Below.refl _ _) | (with_reducible assumption) | (with_reducible refine Below.alloc ?_ ?_ _) | (with_reducible refine Below.drew ?_) | (with_reducible refine bdN ?_ _) | (with_reducible refine Below.setCell ?_ ?_ _) | (with_reducible refine chn ?_ (by assumption) ?_) | omega | (simp; done) | (simp; omega))))); rintro ee v0 ⟨g9_1, g9_2, rfl, hK9_1, hK9_2, hg9_1, hg9_2, hv0⟩; have hq0 := hv0.size; (try simp only [World.size_drew, World.size_alloc] at hq0))) | (go_at_call 33; ((with_reducible refine (eqTableau (xs1 := xs1p0) (xs2 := xs2p0) ?_ ?_ ?_ ?_ HN1p0.out bn1p0 HN2p0.out bn2p0).mono ?_); (exact HX25.out.rd.mono (by (repeat' (first | (with_reducible exact Below.refl _ _) | (with_reducible assumption) | (with_reducible refine Below.alloc ?_ ?_ _) | (with_reducible refine Below.drew ?_) | (with_reducible refine bdN ?_ _) | (with_reducible refine Below.setCell ?_ ?_ _) | (with_reducible refine chn ?_ (by assumption) ?_) | omega | (simp; done) | (simp; omega))))); (exact HX35.out.rd.mono (by (repeat' (first | (with_reducible exact Below.refl _ _) | (with_reducible assumption) | (with_reducible refine Below.alloc ?_ ?_ _) | (with_reducible refine Below.drew ?_) | (with_reducible refine bdN ?_ _) | (with_reducible refine Below.setCell ?_ ?_ _) | (with_reducible refine chn ?_ (by assumption) ?_) | omega | (simp; done) | (simp; omega))))); (exact hK9_1.rd.mono (by (repeat' (first | (with_reducible exact Below.refl _ _) | (with_reducible assumption) | (with_reducible refine Below.alloc ?_ ?_ _) | (with_reducible refine Below.drew ?_) | (with_reducible refine bdN ?_ _) | (with_reducible refine Below.setCell ?_ ?_ _) | (with_reducible refine chn ?_ (by assumption) ?_) | omega | (simp; done) | (simp; omega))))); (exact hK9_2.rd.mono (by (repeat' (first | (with_reducible exact Below.refl _ _) | (with_reducible assumption) | (with_reducible refine Below.alloc ?_ ?_ _) | (with_reducible refine Below.drew ?_) | (with_reducible refine bdN ?_ _) | (with_reducible refine Below.setCell ?_ ?_ _) | (with_reducible refine chn ?_ (by assumption) ?_) | omega | (simp; done) | (simp; omega))))); rintro ee v1 ⟨rfl, hv1⟩; have hq1 := hv1.size; (try simp only [World.size_drew, World.size_alloc] at hq1))))
    all_goals (go_wp2_with fail; go_meet)
    all_goals go_split_ands
    all_goals (refine ⟨rfl, (by with_reducible assumption), (by with_reducible assumption), (by with_reducible assumption), (by with_reducible assumption), (by with_reducible assumption), (by with_reducible assumption), (by exact HX25.out.mono (by (repeat' (first | (with_reducible exact Below.refl _ _) | (with_reducible assumption) | (with_reducible refine Below.alloc ?_ ?_ _) | (with_reducible refine Below.drew ?_) | (with_reducible refine bdN ?_ _) | (with_reducible refine Below.setCell ?_ ?_ _) | (with_reducible refine chn ?_ (by assumption) ?_) | omega | (simp; done) | (simp; omega))))), (by exact HX35.out.mono (by (repeat' (first | (with_reducible exact Below.refl _ _) | (with_reducible assumption) | (with_reducible refine Below.alloc ?_ ?_ _) | (with_reducible refine Below.drew ?_) | (with_reducible refine bdN ?_ _) | (with_reducible refine Below.setCell ?_ ?_ _) | (with_reducible refine chn ?_ (by assumption) ?_) | omega | (simp; done) | (simp; omega))))), (by (try simp only [World.size_alloc, World.size_drew, World.size_setCell]); omega), (by (repeat' (first | (with_reducible exact Below.refl _ _) | (with_reducible assumption) | (with_reducible refine Below.alloc ?_ ?_ _) | (with_reducible refine Below.drew ?_) | (with_reducible refine bdN ?_ _) | (with_reducible refine Below.setCell ?_ ?_ _) | (with_reducible refine chn ?_ (by assumption) ?_) | omega | (simp; done) | (simp; omega))))⟩)
  case rest =>
    obtain ⟨w6, rfl⟩ : ∃ w6, w6 = wc := ⟨_, rfl⟩
    clear k5_0_0 k5_0_1 k5_0_2 k5_1_0 k5_1_1 k5_1_2 HX25 HX35
    obtain ⟨rfl, k6_0_0, k6_0_1, k6_0_2, k6_1_0, k6_1_1, k6_1_2, HX26, HX36, hz6, hB6⟩ := hcut
    have bl6_0 : w.heap.size < w6.heap.size := World.block_lt_of_cell? _ _ k6_0_0
    have bl6_1 : w4.heap.size < w6.heap.size := World.block_lt_of_cell? _ _ k6_1_0
    go_wp2_with (fail)
    go_ret
    exact ⟨rfl, hB6⟩

theorem fnExactOrderOf_walk {a0p0 : Int} {A1p0 : Option Addr} {n1p0 c1p0 : Nat} {A2p0 : Option Addr} {n2p0 c2p0 : Nat} {xs1p0 : List PauliV} {xs2p0 : List PauliV} {w : World} (hA1p0 : Rd pauliE w A1p0 xs1p0) (hn1p0 : xs1p0.length = n1p0) (hm1p0 : n1p0 ≤ maxLen) (hA2p0 : Rd pauliE w A2p0 xs2p0) (hn2p0 : xs2p0.length = n2p0) (hm2p0 : n2p0 ≤ maxLen) :
    Calls Try.prog 12 #[(tableauV a0p0 A1p0 n1p0 c1p0 A2p0 n2p0 c2p0)] w fun ee w' => ee = .returned (.bool true) ∧ Below w.heap.size w w' := by
  by_cases hb0 : (n1p0 : Int) + (n2p0 : Int) ≤ 1048576
  · skip
    by_cases hT : TOk a0p0 n1p0 n2p0 xs1p0 xs2p0
    · obtain ⟨n, rfl, rfl, rfl, q1, q5⟩ := TOk_nat hT
      obtain ⟨s0, s1, hr⟩ := ordA_ex n2p0 xs1p0 xs2p0
      exact lwOrderOf (r0 := s0) (r1 := s1) (fun g h w hA hB => ors_t q1 q5 hT hr hA hB hn1p0 hn2p0) (fun g h w hA hB => ori_t q1 q5 hT hr hA hB hn1p0 hn2p0)  hA1p0 hn1p0 (by omega) hA2p0 hn2p0 (by omega)
    · exact lwOrderOf (r0 := 0) (r1 := false) (fun g h w hA hB => or_s_f hT hA hB hn1p0 hn2p0 hm1p0 hm2p0) (fun g h w hA hB => or_i_f hT hA hB hn1p0 hn2p0 hm1p0 hm2p0)  hA1p0 hn1p0 (by omega) hA2p0 hn2p0 (by omega)
  · exact bigOrderOf0  (by omega) hm1p0 hm2p0

end Go.Proofs.Ytjedpeoafpljhaa.C4
