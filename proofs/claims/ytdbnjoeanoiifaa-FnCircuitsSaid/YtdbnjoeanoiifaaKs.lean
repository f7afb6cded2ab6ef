/- The model's MapQubits. -/
import Derived.Test.YtdbnjoeanoiifaaKr
import Derived.Test.YtdbnjoeanoiifaaKap
namespace Go.Proofs.Ytdbnjoeanoiifaa
open Go.RowKit
set_option linter.unusedVariables false
set_option linter.unusedSimpArgs false
attribute [local irreducible] World.setCell

set_option maxRecDepth 100000 in
set_option maxHeartbeats 4000000 in
theorem sMap_a {a0 n : Int} {Ag : Option Addr} {h n1 c1 m d1 : Nat} {xs : List GateV} {ts : List Int} {w : World} (hA : Rd gateE w Ag xs) (hPA : Pl Ag n1 c1) (hB : Rd intE w (some ⟨h, 0, none⟩) ts) (hn : xs.length = n1) (hm : ts.length = m) (hmn : n1 ≤ maxLen) (hmm : m ≤ 1048576) (ho : okC a0 n1 xs = true) (hq : inB n 1 5 = true) (hl : (m : Int) = a0) (hx : ¬ ∀ x ∈ ts, inB x 0 (n - 1) = true) :
    Calls Try.prog 27 #[circuitV a0 Ag n1 c1, .slice (some ⟨h, 0, none⟩) m d1, .int .i64 n] w fun ee w' => ee = .returned (.tuple #[circuitV 0 none 0 0, .bool false]) ∧ Below w.heap.size w w' := by
  have HPA := lay hPA
  clear hPA
  have hl2 : ((m : Int) != a0) = false := by simpa using hl
  obtain ⟨q1, q5, h400, hall⟩ := okC_iff.1 ho
  obtain ⟨z1, z5⟩ := inB_iff.1 hq
  have hm5 : m ≤ 5 := by omega
  have HL := lay hl
  have HALL := lay hall
  have HO := lay ho
  have HQ := lay hq
  clear ho hq hl hall
  have HT := lay hx
  clear hx
  have HA := lay hA
  have HB := lay hB
  have HN := lay hn
  have HM := lay hm
  clear hA hB hn hm
  go_enter Try.func27, Try.ntmps27
  go_wp2_with (fail)
  refine (vcs (xs := xs) HO.out ?_ HN.out hmn).mono ?_
  · exact HA.out.mono (by (repeat' (first | (with_reducible exact Below.refl _ _) | (with_reducible assumption) | (with_reducible refine Below.alloc ?_ ?_ _) | (with_reducible refine Below.drew ?_) | (with_reducible refine bdN ?_ _) | (with_reducible refine Below.setCell ?_ ?_ _) | (with_reducible refine chn ?_ (by assumption) ?_) | omega | (simp; done) | (simp; omega))))
  rintro ee w1 ⟨rfl, hb1⟩
  have hz1 := hb1.size
  (try simp only [World.size_alloc] at hz1)
  have Xa : Hid (Bb w1 (w.heap.size) 42 #[.int .i64 a0, .slice Ag n1 c1]) := by show Bb _ _ _ _; (repeat' (first | (with_reducible assumption) | (refine Bb.new (by first | (with_reducible rfl) | (simp; done))) | (with_reducible refine Bb.alloc ?_ _) | (with_reducible refine Bb.drew ?_) | (with_reducible refine Bb.drewN ?_ _) | (with_reducible refine Bb.mono ?_ (by assumption)) | (with_reducible refine Bb.far ?_ (by (try simp only [World.size_alloc, World.size_drew]); omega)) | (with_reducible refine Bb.set ?_ rfl) | (with_reducible refine Bb.grown ?_ (by assumption) (by assumption))))
  have Xz : Hid (Bb w1 (w.heap.size + 1) 42 #[.int .i64 0, .slice none 0 0]) := by show Bb _ _ _ _; (repeat' (first | (with_reducible assumption) | (refine Bb.new (by first | (with_reducible rfl) | (simp; done))) | (with_reducible refine Bb.alloc ?_ _) | (with_reducible refine Bb.drew ?_) | (with_reducible refine Bb.drewN ?_ _) | (with_reducible refine Bb.mono ?_ (by assumption)) | (with_reducible refine Bb.far ?_ (by (try simp only [World.size_alloc, World.size_drew]); omega)) | (with_reducible refine Bb.set ?_ rfl) | (with_reducible refine Bb.grown ?_ (by assumption) (by assumption))))
  have k1_0_0 : w1.cell? ⟨w.heap.size, 0, none⟩ = some (.int .i64 a0) := (hb1.cell (p := ⟨w.heap.size, 0, none⟩) (by show w.heap.size < _; (try simp only [World.size_alloc]); omega)).trans (by first | rfl | (simp; done) | (simp [*]; done) | (repeat (first | (simp; done) | (refine Bb.c (Bb.new ?_) _ rfl; (simp; done)) | refine kclAl ?_)))
  have k1_0_1 : w1.cell? ⟨w.heap.size, 1, none⟩ = some (.slice Ag n1 c1) := (hb1.cell (p := ⟨w.heap.size, 1, none⟩) (by show w.heap.size < _; (try simp only [World.size_alloc]); omega)).trans (by first | rfl | (simp; done) | (simp [*]; done) | (repeat (first | (simp; done) | (refine Bb.c (Bb.new ?_) _ rfl; (simp; done)) | refine kclAl ?_)))
  have r1_0 : ∀ o, w1.frozen? ⟨w.heap.size, o, none⟩ = false := fun o => (hb1.frozen (p := ⟨w.heap.size, o, none⟩) (by show w.heap.size < _; (try simp only [World.size_alloc]); omega)).trans (by first | rfl | (simp; done) | (simp [*]; done) | (repeat (first | (simp; done) | (refine Bb.f (Bb.new ?_) _; (simp; done)) | refine frAl (by (try simp only [World.size_alloc]); omega) ?_)))
  have b1_0 : w.heap.size < w1.heap.size := World.block_lt_of_cell? _ _ k1_0_0
  have k1_1_0 : w1.cell? ⟨w.heap.size + 1, 0, none⟩ = some (.int .i64 0) := (hb1.cell (p := ⟨w.heap.size + 1, 0, none⟩) (by show w.heap.size + 1 < _; (try simp only [World.size_alloc]); omega)).trans (by first | rfl | (simp; done) | (simp [*]; done) | (repeat (first | (simp; done) | (refine Bb.c (Bb.new ?_) _ rfl; (simp; done)) | refine kclAl ?_)))
  have k1_1_1 : w1.cell? ⟨w.heap.size + 1, 1, none⟩ = some (.slice none 0 0) := (hb1.cell (p := ⟨w.heap.size + 1, 1, none⟩) (by show w.heap.size + 1 < _; (try simp only [World.size_alloc]); omega)).trans (by first | rfl | (simp; done) | (simp [*]; done) | (repeat (first | (simp; done) | (refine Bb.c (Bb.new ?_) _ rfl; (simp; done)) | refine kclAl ?_)))
  have r1_1 : ∀ o, w1.frozen? ⟨w.heap.size + 1, o, none⟩ = false := fun o => (hb1.frozen (p := ⟨w.heap.size + 1, o, none⟩) (by show w.heap.size + 1 < _; (try simp only [World.size_alloc]); omega)).trans (by first | rfl | (simp; done) | (simp [*]; done) | (repeat (first | (simp; done) | (refine Bb.f (Bb.new ?_) _; (simp; done)) | refine frAl (by (try simp only [World.size_alloc]); omega) ?_)))
  have b1_1 : w.heap.size + 1 < w1.heap.size := World.block_lt_of_cell? _ _ k1_1_0
  have hW1 : Below w.heap.size w w1 := by (repeat' (first | (with_reducible exact Below.refl _ _) | (with_reducible assumption) | (with_reducible refine Below.alloc ?_ ?_ _) | (with_reducible refine Below.drew ?_) | (with_reducible refine bdN ?_ _) | (with_reducible refine Below.setCell ?_ ?_ _) | (with_reducible refine chn ?_ (by assumption) ?_) | omega | (simp; done) | (simp; omega)))
  have hy1 := hW1.size
  clear hb1
  go_wp2_with (first | (go_at_call 63; ((with_reducible refine (lin HQ.out _).mono ?_); rintro ee w4 ⟨rfl, rfl⟩)) | (go_at_call 64; ((with_reducible refine (lall (t := false) (Iff.intro (fun k => (by cases k)) (fun k => absurd k HT.out)) ?_ HM.out hmm).mono ?_); (exact HB.out.mono (by (repeat' (first | (with_reducible exact Below.refl _ _) | (with_reducible assumption) | (with_reducible refine Below.alloc ?_ ?_ _) | (with_reducible refine Below.drew ?_) | (with_reducible refine bdN ?_ _) | (with_reducible refine Below.setCell ?_ ?_ _) | (with_reducible refine chn ?_ (by assumption) ?_) | omega | (simp; done) | (simp; omega))))); rintro ee w5 ⟨rfl, rfl⟩)))
  refine bodyPost_ret (v := .tuple #[circuitV 0 none 0 0, .bool false]) (by first | (simp [results, Try.results27, go_sem, *]; done) | (simp (disch := (first | omega | (simp; done) | (simp; omega))) [results, Try.results27, go_sem, *]; done) | (simp only [results, Try.results27]; go_simp; done)) rfl ⟨rfl, ?_⟩
  (repeat' (first | (with_reducible exact Below.refl _ _) | (with_reducible assumption) | (with_reducible refine Below.alloc ?_ ?_ _) | (with_reducible refine Below.drew ?_) | (with_reducible refine bdN ?_ _) | (with_reducible refine Below.setCell ?_ ?_ _) | (with_reducible refine chn ?_ (by assumption) ?_) | omega | (simp; done) | (simp; omega)))

set_option maxRecDepth 100000 in
set_option maxHeartbeats 8000000 in
theorem sMap_d {a0 n : Int} {Ag : Option Addr} {h n1 c1 m d1 : Nat} {xs : List GateV} {ts : List Int} {w : World} (hA : Rd gateE w Ag xs) (hPA : Pl Ag n1 c1) (hB : Rd intE w (some ⟨h, 0, none⟩) ts) (hn : xs.length = n1) (hm : ts.length = m) (hmn : n1 ≤ maxLen) (hmm : m ≤ 1048576) (hd1 : m ≤ d1 ∧ d1 ≤ 9223372036854775807) (ho : okC a0 n1 xs = true) (hq : inB n 1 5 = true) (hl : (m : Int) = a0) (hx : ∀ x ∈ ts, inB x 0 (n - 1) = true) (ht : ¬ ts.Nodup) :
    Calls Try.prog 27 #[circuitV a0 Ag n1 c1, .slice (some ⟨h, 0, none⟩) m d1, .int .i64 n] w fun ee w' => ee = .returned (.tuple #[circuitV 0 none 0 0, .bool false]) ∧ Below w.heap.size w w' := by
  have HPA := lay hPA
  have HD := lay hd1
  clear hd1
  clear hPA
  have hl2 : ((m : Int) != a0) = false := by simpa using hl
  obtain ⟨q1, q5, h400, hall⟩ := okC_iff.1 ho
  obtain ⟨z1, z5⟩ := inB_iff.1 hq
  have hm5 : m ≤ 5 := by omega
  have HL := lay hl
  have HALL := lay hall
  have HO := lay ho
  have HQ := lay hq
  clear ho hq hl hall
  have HT := lay hx
  have HT2 : Hid (¬ ts.Nodup) := ht
  clear hx ht
  have HA := lay hA
  have HB := lay hB
  have HN := lay hn
  have HM := lay hm
  clear hA hB hn hm
  go_enter Try.func27, Try.ntmps27
  go_wp2_with (fail)
  refine (vcs (xs := xs) HO.out ?_ HN.out hmn).mono ?_
  · exact HA.out.mono (by (repeat' (first | (with_reducible exact Below.refl _ _) | (with_reducible assumption) | (with_reducible refine Below.alloc ?_ ?_ _) | (with_reducible refine Below.drew ?_) | (with_reducible refine bdN ?_ _) | (with_reducible refine Below.setCell ?_ ?_ _) | (with_reducible refine chn ?_ (by assumption) ?_) | omega | (simp; done) | (simp; omega))))
  rintro ee w1 ⟨rfl, hb1⟩
  have hz1 := hb1.size
  (try simp only [World.size_alloc] at hz1)
  have Xa : Hid (Bb w1 (w.heap.size) 42 #[.int .i64 a0, .slice Ag n1 c1]) := by show Bb _ _ _ _; (repeat' (first | (with_reducible assumption) | (refine Bb.new (by first | (with_reducible rfl) | (simp; done))) | (with_reducible refine Bb.alloc ?_ _) | (with_reducible refine Bb.drew ?_) | (with_reducible refine Bb.drewN ?_ _) | (with_reducible refine Bb.mono ?_ (by assumption)) | (with_reducible refine Bb.far ?_ (by (try simp only [World.size_alloc, World.size_drew]); omega)) | (with_reducible refine Bb.set ?_ rfl) | (with_reducible refine Bb.grown ?_ (by assumption) (by assumption))))
  have Xz : Hid (Bb w1 (w.heap.size + 1) 42 #[.int .i64 0, .slice none 0 0]) := by show Bb _ _ _ _; (repeat' (first | (with_reducible assumption) | (refine Bb.new (by first | (with_reducible rfl) | (simp; done))) | (with_reducible refine Bb.alloc ?_ _) | (with_reducible refine Bb.drew ?_) | (with_reducible refine Bb.drewN ?_ _) | (with_reducible refine Bb.mono ?_ (by assumption)) | (with_reducible refine Bb.far ?_ (by (try simp only [World.size_alloc, World.size_drew]); omega)) | (with_reducible refine Bb.set ?_ rfl) | (with_reducible refine Bb.grown ?_ (by assumption) (by assumption))))
  have k1_0_0 : w1.cell? ⟨w.heap.size, 0, none⟩ = some (.int .i64 a0) := (hb1.cell (p := ⟨w.heap.size, 0, none⟩) (by show w.heap.size < _; (try simp only [World.size_alloc]); omega)).trans (by first | rfl | (simp; done) | (simp [*]; done) | (repeat (first | (simp; done) | (refine Bb.c (Bb.new ?_) _ rfl; (simp; done)) | refine kclAl ?_)))
  have k1_0_1 : w1.cell? ⟨w.heap.size, 1, none⟩ = some (.slice Ag n1 c1) := (hb1.cell (p := ⟨w.heap.size, 1, none⟩) (by show w.heap.size < _; (try simp only [World.size_alloc]); omega)).trans (by first | rfl | (simp; done) | (simp [*]; done) | (repeat (first | (simp; done) | (refine Bb.c (Bb.new ?_) _ rfl; (simp; done)) | refine kclAl ?_)))
  have r1_0 : ∀ o, w1.frozen? ⟨w.heap.size, o, none⟩ = false := fun o => (hb1.frozen (p := ⟨w.heap.size, o, none⟩) (by show w.heap.size < _; (try simp only [World.size_alloc]); omega)).trans (by first | rfl | (simp; done) | (simp [*]; done) | (repeat (first | (simp; done) | (refine Bb.f (Bb.new ?_) _; (simp; done)) | refine frAl (by (try simp only [World.size_alloc]); omega) ?_)))
  have b1_0 : w.heap.size < w1.heap.size := World.block_lt_of_cell? _ _ k1_0_0
  have k1_1_0 : w1.cell? ⟨w.heap.size + 1, 0, none⟩ = some (.int .i64 0) := (hb1.cell (p := ⟨w.heap.size + 1, 0, none⟩) (by show w.heap.size + 1 < _; (try simp only [World.size_alloc]); omega)).trans (by first | rfl | (simp; done) | (simp [*]; done) | (repeat (first | (simp; done) | (refine Bb.c (Bb.new ?_) _ rfl; (simp; done)) | refine kclAl ?_)))
  have k1_1_1 : w1.cell? ⟨w.heap.size + 1, 1, none⟩ = some (.slice none 0 0) := (hb1.cell (p := ⟨w.heap.size + 1, 1, none⟩) (by show w.heap.size + 1 < _; (try simp only [World.size_alloc]); omega)).trans (by first | rfl | (simp; done) | (simp [*]; done) | (repeat (first | (simp; done) | (refine Bb.c (Bb.new ?_) _ rfl; (simp; done)) | refine kclAl ?_)))
  have r1_1 : ∀ o, w1.frozen? ⟨w.heap.size + 1, o, none⟩ = false := fun o => (hb1.frozen (p := ⟨w.heap.size + 1, o, none⟩) (by show w.heap.size + 1 < _; (try simp only [World.size_alloc]); omega)).trans (by first | rfl | (simp; done) | (simp [*]; done) | (repeat (first | (simp; done) | (refine Bb.f (Bb.new ?_) _; (simp; done)) | refine frAl (by (try simp only [World.size_alloc]); omega) ?_)))
  have b1_1 : w.heap.size + 1 < w1.heap.size := World.block_lt_of_cell? _ _ k1_1_0
  have hW1 : Below w.heap.size w w1 := by (repeat' (first | (with_reducible exact Below.refl _ _) | (with_reducible assumption) | (with_reducible refine Below.alloc ?_ ?_ _) | (with_reducible refine Below.drew ?_) | (with_reducible refine bdN ?_ _) | (with_reducible refine Below.setCell ?_ ?_ _) | (with_reducible refine chn ?_ (by assumption) ?_) | omega | (simp; done) | (simp; omega)))
  have hy1 := hW1.size
  clear hb1
  go_wp2_with (first | (go_at_call 63; ((with_reducible refine (lin HQ.out _).mono ?_); rintro ee w4 ⟨rfl, rfl⟩)) | (go_at_call 64; ((with_reducible refine (lall (t := true) (Iff.intro (fun _ => HT.out) (fun _ => rfl)) ?_ HM.out hmm).mono ?_); (exact HB.out.mono (by (repeat' (first | (with_reducible exact Below.refl _ _) | (with_reducible assumption) | (with_reducible refine Below.alloc ?_ ?_ _) | (with_reducible refine Below.drew ?_) | (with_reducible refine bdN ?_ _) | (with_reducible refine Below.setCell ?_ ?_ _) | (with_reducible refine chn ?_ (by assumption) ?_) | omega | (simp; done) | (simp; omega))))); rintro ee w5 ⟨rfl, rfl⟩)))
  go_loopg [38] m (fun k s1 wr => ∃ j : Nat, j + k = m ∧ s1 = .int .i64 (j : Int) ∧ Hid ((ts.take j).Nodup) ∧ w1 = wr)
  case atStart => exact ⟨0, by omega, rfl, (by show List.Nodup _; simp), rfl⟩
  case round =>
    obtain ⟨j, hj, rfl, HJ, rfl⟩ := hrel
    cases gk with
    | zero =>
      obtain rfl : m = j := by omega
      exfalso
      have h9 := HJ.out
      rw [List.take_of_length_le (by rw [HM.out]; exact Nat.le_refl _)] at h9
      exact HT2.out h9
    | succ k =>
      have hlt : j < m := by omega
      obtain ⟨x, hx⟩ : ∃ x, ts[j]? = some x := ⟨_, List.getElem?_eq_getElem (by rw [HM.out]; exact hlt)⟩
      obtain ⟨g', o', e', hgw, q0⟩ := HB.out.atInt hx
      cases e'
      have q1 : w1.cell? ⟨h, j, none⟩ = some (.int .i64 x) := (hW1.cell (p := ⟨h, j, none⟩) hgw).trans (by rw [← q0, Nat.zero_add])
      have HX := lay hx
      have HR := lay ((HB.out.mono hW1).take j)
      have HLT : Hid ((ts.take j).length = j) := by show _ = _; rw [List.length_take, HM.out]; omega
      clear hx q0
      have j0 : (0 : Int) ≤ (j : Int) := by omega
      have j1 : (j : Int) ≤ (d1 : Int) := by have := HD.out.1; omega
      by_cases hin : x ∈ ts.take j
      · have HI : Hid (x ∈ ts.take j) := hin
        clear hin
        go_wp2_with (go_at_call 59; ((with_reducible refine (lhas (t := true) (Iff.intro (fun _ => HI.out) (fun _ => rfl)) HR.out HLT.out (by omega)).mono ?_); rintro ee w5 ⟨rfl, rfl⟩))
        refine bodyPost_ret (v := .tuple #[circuitV 0 none 0 0, .bool false]) (by first | (simp [results, Try.results27, go_sem, *]; done) | (simp (disch := (first | omega | (simp; done) | (simp; omega))) [results, Try.results27, go_sem, *]; done) | (simp only [results, Try.results27]; go_simp; done)) rfl ⟨rfl, ?_⟩
        (repeat' (first | (with_reducible exact Below.refl _ _) | (with_reducible assumption) | (with_reducible refine Below.alloc ?_ ?_ _) | (with_reducible refine Below.drew ?_) | (with_reducible refine bdN ?_ _) | (with_reducible refine Below.setCell ?_ ?_ _) | (with_reducible refine chn ?_ (by assumption) ?_) | omega | (simp; done) | (simp; omega)))
      · have HN1 : Hid (¬ x ∈ ts.take j) := hin
        clear hin
        go_wp2_with (go_at_call 59; ((with_reducible refine (lhas (t := false) (Iff.intro (fun k => (by cases k)) (fun k => absurd k HN1.out)) HR.out HLT.out (by omega)).mono ?_); rintro ee w5 ⟨rfl, rfl⟩))
        go_roundg k
        case measure => omega
        case rel =>
          refine ⟨j + 1, by omega, by go_num, ?_, rfl⟩
          show List.Nodup _
          exact nodup_take HX.out HJ.out HN1.out


theorem heap_new_at {W : World} {b : Nat} {B : Obj} (h : b = W.heap.size) : (W.alloc B).heap[b]? = some B := by
  subst h
  exact heap_alloc_new _ _
theorem take_snoc {ys : List GateV} {j : Nat} {y : GateV} (h : ys[j]? = some y) : ys.take j ++ [y] = ys.take (j + 1) := by
  have hj := (List.getElem?_eq_some_iff.1 h).1
  have hv := (List.getElem?_eq_some_iff.1 h).2
  rw [List.take_succ_eq_append_getElem hj, hv]
set_option maxRecDepth 100000 in
set_option maxHeartbeats 8000000 in
theorem sMap_t {a0 n : Int} {Ag : Option Addr} {h n1 c1 m d1 : Nat} {xs : List GateV} {ts : List Int} {w : World} (hA : Rd gateE w Ag xs) (hPA : Pl Ag n1 c1) (hB : Rd intE w (some ⟨h, 0, none⟩) ts) (hn : xs.length = n1) (hm : ts.length = m) (hmn : n1 ≤ maxLen) (hmm : m ≤ 1048576) (hd1 : m ≤ d1 ∧ d1 ≤ 9223372036854775807) (ho : okC a0 n1 xs = true) (hq : inB n 1 5 = true) (hl : (m : Int) = a0) (hx : ∀ x ∈ ts, inB x 0 (n - 1) = true) (ht : ts.Nodup) :
    Calls Try.prog 27 #[circuitV a0 Ag n1 c1, .slice (some ⟨h, 0, none⟩) m d1, .int .i64 n] w fun ee w' => OkR n (xs.map (mapG ts)) w ee w' := by
  have HPA := lay hPA
  have HD := lay hd1
  clear hd1
  clear hPA
  obtain ⟨i0, hi0, iz0, iz1, iz2⟩ := info_parts infoGate
  have hl2 : ((m : Int) != a0) = false := by simpa using hl
  obtain ⟨q1, q5, h400, hall⟩ := okC_iff.1 ho
  obtain ⟨z1, z5⟩ := inB_iff.1 hq
  have hm5 : m ≤ 5 := by omega
  have HL := lay hl
  have HALL := lay hall
  have HO := lay ho
  have HQ := lay hq
  clear ho hq hl hall
  have hyl : (xs.map (mapG ts)).length = n1 := by rw [List.length_map, hn]
  have HYL := lay hyl
  have HT := lay hx
  have HT2 : Hid ts.Nodup := ht
  clear hx ht hyl
  have HA := lay hA
  have HB := lay hB
  have HN := lay hn
  have HM := lay hm
  clear hA hB hn hm
  go_enter Try.func27, Try.ntmps27
  go_wp2_with (fail)
  refine (vcs (xs := xs) HO.out ?_ HN.out hmn).mono ?_
  · exact HA.out.mono (by (repeat' (first | (with_reducible exact Below.refl _ _) | (with_reducible assumption) | (with_reducible refine Below.alloc ?_ ?_ _) | (with_reducible refine Below.drew ?_) | (with_reducible refine bdN ?_ _) | (with_reducible refine Below.setCell ?_ ?_ _) | (with_reducible refine chn ?_ (by assumption) ?_) | omega | (simp; done) | (simp; omega))))
  rintro ee w1 ⟨rfl, hb1⟩
  have hz1 := hb1.size
  (try simp only [World.size_alloc] at hz1)
  have Xa : Hid (Bb w1 (w.heap.size) 42 #[.int .i64 a0, .slice Ag n1 c1]) := by show Bb _ _ _ _; (repeat' (first | (with_reducible assumption) | (refine Bb.new (by first | (with_reducible rfl) | (simp; done))) | (with_reducible refine Bb.alloc ?_ _) | (with_reducible refine Bb.drew ?_) | (with_reducible refine Bb.drewN ?_ _) | (with_reducible refine Bb.mono ?_ (by assumption)) | (with_reducible refine Bb.far ?_ (by (try simp only [World.size_alloc, World.size_drew]); omega)) | (with_reducible refine Bb.set ?_ rfl) | (with_reducible refine Bb.grown ?_ (by assumption) (by assumption))))
  have Xz : Hid (Bb w1 (w.heap.size + 1) 42 #[.int .i64 0, .slice none 0 0]) := by show Bb _ _ _ _; (repeat' (first | (with_reducible assumption) | (refine Bb.new (by first | (with_reducible rfl) | (simp; done))) | (with_reducible refine Bb.alloc ?_ _) | (with_reducible refine Bb.drew ?_) | (with_reducible refine Bb.drewN ?_ _) | (with_reducible refine Bb.mono ?_ (by assumption)) | (with_reducible refine Bb.far ?_ (by (try simp only [World.size_alloc, World.size_drew]); omega)) | (with_reducible refine Bb.set ?_ rfl) | (with_reducible refine Bb.grown ?_ (by assumption) (by assumption))))
  have k1_0_0 : w1.cell? ⟨w.heap.size, 0, none⟩ = some (.int .i64 a0) := (hb1.cell (p := ⟨w.heap.size, 0, none⟩) (by show w.heap.size < _; (try simp only [World.size_alloc]); omega)).trans (by first | rfl | (simp; done) | (simp [*]; done) | (repeat (first | (simp; done) | (refine Bb.c (Bb.new ?_) _ rfl; (simp; done)) | refine kclAl ?_)))
  have k1_0_1 : w1.cell? ⟨w.heap.size, 1, none⟩ = some (.slice Ag n1 c1) := (hb1.cell (p := ⟨w.heap.size, 1, none⟩) (by show w.heap.size < _; (try simp only [World.size_alloc]); omega)).trans (by first | rfl | (simp; done) | (simp [*]; done) | (repeat (first | (simp; done) | (refine Bb.c (Bb.new ?_) _ rfl; (simp; done)) | refine kclAl ?_)))
  have r1_0 : ∀ o, w1.frozen? ⟨w.heap.size, o, none⟩ = false := fun o => (hb1.frozen (p := ⟨w.heap.size, o, none⟩) (by show w.heap.size < _; (try simp only [World.size_alloc]); omega)).trans (by first | rfl | (simp; done) | (simp [*]; done) | (repeat (first | (simp; done) | (refine Bb.f (Bb.new ?_) _; (simp; done)) | refine frAl (by (try simp only [World.size_alloc]); omega) ?_)))
  have b1_0 : w.heap.size < w1.heap.size := World.block_lt_of_cell? _ _ k1_0_0
  have k1_1_0 : w1.cell? ⟨w.heap.size + 1, 0, none⟩ = some (.int .i64 0) := (hb1.cell (p := ⟨w.heap.size + 1, 0, none⟩) (by show w.heap.size + 1 < _; (try simp only [World.size_alloc]); omega)).trans (by first | rfl | (simp; done) | (simp [*]; done) | (repeat (first | (simp; done) | (refine Bb.c (Bb.new ?_) _ rfl; (simp; done)) | refine kclAl ?_)))
  have k1_1_1 : w1.cell? ⟨w.heap.size + 1, 1, none⟩ = some (.slice none 0 0) := (hb1.cell (p := ⟨w.heap.size + 1, 1, none⟩) (by show w.heap.size + 1 < _; (try simp only [World.size_alloc]); omega)).trans (by first | rfl | (simp; done) | (simp [*]; done) | (repeat (first | (simp; done) | (refine Bb.c (Bb.new ?_) _ rfl; (simp; done)) | refine kclAl ?_)))
  have r1_1 : ∀ o, w1.frozen? ⟨w.heap.size + 1, o, none⟩ = false := fun o => (hb1.frozen (p := ⟨w.heap.size + 1, o, none⟩) (by show w.heap.size + 1 < _; (try simp only [World.size_alloc]); omega)).trans (by first | rfl | (simp; done) | (simp [*]; done) | (repeat (first | (simp; done) | (refine Bb.f (Bb.new ?_) _; (simp; done)) | refine frAl (by (try simp only [World.size_alloc]); omega) ?_)))
  have b1_1 : w.heap.size + 1 < w1.heap.size := World.block_lt_of_cell? _ _ k1_1_0
  have hW1 : Below w.heap.size w w1 := by (repeat' (first | (with_reducible exact Below.refl _ _) | (with_reducible assumption) | (with_reducible refine Below.alloc ?_ ?_ _) | (with_reducible refine Below.drew ?_) | (with_reducible refine bdN ?_ _) | (with_reducible refine Below.setCell ?_ ?_ _) | (with_reducible refine chn ?_ (by assumption) ?_) | omega | (simp; done) | (simp; omega)))
  have hy1 := hW1.size
  clear hb1
  go_wp2_with (first | (go_at_call 63; ((with_reducible refine (lin HQ.out _).mono ?_); rintro ee w4 ⟨rfl, rfl⟩)) | (go_at_call 64; ((with_reducible refine (lall (t := true) (Iff.intro (fun _ => HT.out) (fun _ => rfl)) ?_ HM.out hmm).mono ?_); (exact HB.out.mono (by (repeat' (first | (with_reducible exact Below.refl _ _) | (with_reducible assumption) | (with_reducible refine Below.alloc ?_ ?_ _) | (with_reducible refine Below.drew ?_) | (with_reducible refine bdN ?_ _) | (with_reducible refine Below.setCell ?_ ?_ _) | (with_reducible refine chn ?_ (by assumption) ?_) | omega | (simp; done) | (simp; omega))))); rintro ee w5 ⟨rfl, rfl⟩)))
  go_loopg [38] m (fun k s1 wr => ∃ j : Nat, j + k = m ∧ s1 = .int .i64 (j : Int) ∧ Hid ((ts.take j).Nodup) ∧ w1 = wr)
  case atStart => exact ⟨0, by omega, rfl, (by show List.Nodup _; simp), rfl⟩
  case round =>
    obtain ⟨j, hj, rfl, HJ, rfl⟩ := hrel
    cases gk with
    | zero =>
      obtain rfl : m = j := by omega
      clear HJ
      go_wp2_with (fail)
      go_loopg [55] n1 (fun k s1 wr => ∃ (j : Nat) (v : Value), j + k = n1 ∧ s1 = .int .i64 (j : Int) ∧ Hid (Bb wr (w.heap.size) 42 #[.int .i64 a0, .slice Ag n1 c1]) ∧ Hid (Bb wr (w.heap.size + 1) 42 #[.int .i64 0, .slice none 0 0]) ∧ Hid (Bb wr (w1.heap.size) 42 #[.int .i64 n, v]) ∧ Hid (Own gateE wr (w1.heap.size + 1) 81 v ((xs.map (mapG ts)).take j)) ∧ w1.heap.size + 1 ≤ wr.heap.size ∧ Below w.heap.size w wr)
      case atStart =>
        have R1 := Xa.out
        have R2 := Xz.out
        refine ⟨0, .slice none 0 0, by omega, rfl, (by show Bb _ _ _ _; (repeat' (first | (with_reducible assumption) | (with_reducible refine Bb.alloc ?_ _) | (with_reducible refine Bb.drew ?_) | (with_reducible refine Bb.drewN ?_ _) | (with_reducible refine Bb.mono ?_ (by assumption)) | (with_reducible refine Bb.far ?_ (by (try simp only [World.size_alloc, World.size_drew]); omega)) | (with_reducible refine Bb.set ?_ rfl) | (with_reducible refine Bb.grown ?_ (by assumption) (by assumption))))), (by show Bb _ _ _ _; (repeat' (first | (with_reducible assumption) | (with_reducible refine Bb.alloc ?_ _) | (with_reducible refine Bb.drew ?_) | (with_reducible refine Bb.drewN ?_ _) | (with_reducible refine Bb.mono ?_ (by assumption)) | (with_reducible refine Bb.far ?_ (by (try simp only [World.size_alloc, World.size_drew]); omega)) | (with_reducible refine Bb.set ?_ rfl) | (with_reducible refine Bb.grown ?_ (by assumption) (by assumption))))), (by show Bb _ _ _ _; (repeat' (first | (with_reducible assumption) | (refine Bb.new (by first | (with_reducible rfl) | (simp; done))) | (with_reducible refine Bb.alloc ?_ _) | (with_reducible refine Bb.drew ?_) | (with_reducible refine Bb.drewN ?_ _) | (with_reducible refine Bb.mono ?_ (by assumption)) | (with_reducible refine Bb.far ?_ (by (try simp only [World.size_alloc, World.size_drew]); omega)) | (with_reducible refine Bb.set ?_ rfl) | (with_reducible refine Bb.grown ?_ (by assumption) (by assumption))))), ?_, by (try simp only [World.size_alloc]); omega, by (repeat' (first | (with_reducible exact Below.refl _ _) | (with_reducible assumption) | (with_reducible refine Below.alloc ?_ ?_ _) | (with_reducible refine Below.drew ?_) | (with_reducible refine bdN ?_ _) | (with_reducible refine Below.setCell ?_ ?_ _) | (with_reducible refine chn ?_ (by assumption) ?_) | omega | (simp; done) | (simp; omega)))⟩
        show Own _ _ _ _ _ _
        rw [List.take_zero]
        exact Own.nil _ _ _
      case round =>
        obtain ⟨j, v, hj, rfl, Xa', Xz', Xo, HOv, hsz, hB'⟩ := hrel
        clear Xa Xz k1_0_0 k1_0_1 k1_1_0 k1_1_1 r1_0 r1_1 b1_0 b1_1
        have hBq := hB'.size
        have ca0 := Xa'.out.c 0 rfl
        have ca1 := Xa'.out.c 1 rfl
        have la := Xa'.out.lt
        have cz0 := Xz'.out.c 0 rfl
        have cz1 := Xz'.out.c 1 rfl
        have lz := Xz'.out.lt
        have fz := Xz'.out.f
        have co0 := Xo.out.c 0 rfl
        have co1 := Xo.out.c 1 rfl
        have lo := Xo.out.lt
        have fo := Xo.out.f
        cases gk with
        | zero =>
          obtain rfl : j = n1 := by omega
          have HO1 := HOv.out
          rw [List.take_of_length_le (by rw [HYL.out]; exact Nat.le_refl _)] at HO1
          obtain ⟨B, cq, rfl, hRd, hBa⟩ := HO1.form
          rw [HYL.out] at co1
          have HBa := lay hBa
          have HRd := lay hRd
          clear hBa hRd HOv HO1
          go_wp2_with (fail)
          refine bodyPost_ret (v := .tuple #[circuitV n B j cq, .bool true]) (by first | (simp [results, Try.results27, go_sem, *]; done) | (simp (disch := (first | omega | (simp; done) | (simp; omega))) [results, Try.results27, go_sem, *]; done) | (simp only [results, Try.results27]; go_simp; done)) rfl (OkR.i HYL.out rfl ?_ ?_ ?_)
          · have hBa := HBa.out
            have R := HRd.out
            (repeat' (first | (with_reducible assumption) | (with_reducible refine Rd.al ?_ _) | (refine Rd.far ?_ (fun a ha => by have h9 := (hBa a ha).1; dsimp only; omega) _)))
          · have hBa := HBa.out
            intro a ha
            have := (hBa a ha).1
            omega
          · (repeat' (first | (with_reducible exact Below.refl _ _) | (with_reducible assumption) | (with_reducible refine Below.alloc ?_ ?_ _) | (with_reducible refine Below.drew ?_) | (with_reducible refine bdN ?_ _) | (with_reducible refine Below.setCell ?_ ?_ _) | (with_reducible refine chn ?_ (by assumption) ?_) | omega | (simp; done) | (simp; omega)))

        | succ r =>
          have hlt : j < n1 := by omega
          obtain ⟨x, hx⟩ : ∃ x, xs[j]? = some x := ⟨_, List.getElem?_eq_getElem (by rw [HN.out]; exact hlt)⟩
          have hgx := HALL.out j x hx
          obtain ⟨g, o', e', hgw, hC⟩ := HA.out.atGate hx
          obtain rfl := HPA.out.off e'
          subst e'
          simp only [Nat.zero_add] at hC
          have hC' : wr.cell? ⟨g, j * 3, none⟩ = some (.int .i64 x.f0) ∧ wr.cell? ⟨g, j * 3 + 1, none⟩ = some (.int .i64 x.f1) ∧ wr.cell? ⟨g, j * 3 + 2, none⟩ = some (.int .i64 x.f2) := ⟨(World.cell?_of_block (hB'.block g hgw)).trans hC.1, (World.cell?_of_block (hB'.block g hgw)).trans hC.2.1, (World.cell?_of_block (hB'.block g hgw)).trans hC.2.2⟩
          obtain ⟨p0, p1, p2⟩ := hC'
          have HX := lay hx
          have HLT : Hid (((xs.map (mapG ts)).take j).length = j) := by show _ = _; rw [List.length_take, HYL.out]; omega
          have j1 : (j : Int) < (n1 : Int) := by omega
          have hmax : j + 1 ≤ maxLen := by unfold maxLen; omega
          have hby : (j + 1) * 24 ≤ 140737488355328 := by omega
          clear hx hC
          obtain ⟨k, f1, f2⟩ := x
          dsimp only at p0 p1 p2
          cases k8 : inB k 1 8
          · cases k11 : inB k 9 11
            · obtain ⟨h1, h2, h3⟩ := gB_q12 hgx k8 k11
              dsimp only at h1 h2 h3
              subst h1 h2 h3
              clear hgx
              clear k8 k11
              have HMG : Hid (mapG ts ⟨12, 0, 0⟩ = ⟨12, 0, 0⟩) := by show _ = _; exact mapG_12 rfl
              have hyl : (xs.map (mapG ts))[j]? = some ⟨12, 0, 0⟩ := by rw [List.getElem?_map, HX.out]; exact congrArg some HMG.out
              have HYX := lay hyl
              clear hyl
              have hov := HOv.out.lt
              have neo : some (w1.heap.size) ≠ v.ownBlock := fun e => by have := (hov _ e.symm).1; omega
              have nea : some (w.heap.size) ≠ v.ownBlock := fun e => by have := (hov _ e.symm).1; omega
              have nez : some (w.heap.size + 1) ≠ v.ownBlock := fun e => by have := (hov _ e.symm).1; omega
              have HOV := lay hov
              have R1 : Bb _ _ _ _ := Xa'.out
              have R2 : Bb _ _ _ _ := Xz'.out
              have R3 : Bb _ _ _ _ := Xo.out
              go_wp2_with (first | (go_at_call 63; ((with_reducible refine (lin (t := false) (by decide) _).mono ?_); rintro ee w4 ⟨rfl, rfl⟩)) | (at_builtin; refine wpList_app1 (E := gateE) rfl _ _ _ rfl (w1.heap.size + 1) 81 i0 _ 24 Try.underlying40 hi0 iz0 iz1 iz2 rfl _ _ j HLT.out (by rfl) (HOv.out.mono (by (repeat' (first | (with_reducible exact Below.refl _ _) | (with_reducible assumption) | (with_reducible refine Below.alloc ?_ ?_ _) | (with_reducible refine Below.drew ?_) | (with_reducible refine bdN ?_ _) | (with_reducible refine Below.setCell ?_ ?_ _) | (with_reducible refine chn ?_ (by assumption) ?_) | omega | (simp; done) | (simp; omega))))) (wr.heap.size + 1) _ ⟨12, 0, 0⟩ #[.int .i64 12, .int .i64 0, .int .i64 0] rfl (by rfl) (heap_new_at (by simp only [World.size_alloc, World.size_setCell])) hmax hby (by (try simp only [World.size_alloc, World.size_setCell]); omega) ?_; intro A2 cp2 w2 hO2 hG2 hat2; have HO2 := lay hO2; have HG2 := lay hG2; have HT2 := lay hat2; clear hO2 hG2 hat2; have hz2' := HG2.out.size; (try simp only [World.size_alloc, World.size_setCell] at hz2'); have Po := lay (Bb.grown (show Bb _ (w1.heap.size) 42 #[.int .i64 n, v] from by (repeat' (first | (with_reducible assumption) | (refine Bb.new (by first | (with_reducible rfl) | (simp; done))) | (with_reducible refine Bb.alloc ?_ _) | (with_reducible refine Bb.drew ?_) | (with_reducible refine Bb.drewN ?_ _) | (with_reducible refine Bb.mono ?_ (by assumption)) | (with_reducible refine Bb.far ?_ (by (try simp only [World.size_alloc, World.size_drew]); omega)) | (with_reducible refine Bb.set ?_ rfl) | (with_reducible refine Bb.grown ?_ (by assumption) (by assumption))))) HG2.out neo); have po0 := Po.out.c 0 rfl; have po1 := Po.out.c 1 rfl; have lpo := Po.out.lt; have fpo := Po.out.f))
              have hB2 : Below w.heap.size w w2 := Below.grown (by (repeat' (first | (with_reducible exact Below.refl _ _) | (with_reducible assumption) | (with_reducible refine Below.alloc ?_ ?_ _) | (with_reducible refine Below.drew ?_) | (with_reducible refine bdN ?_ _) | (with_reducible refine Below.setCell ?_ ?_ _) | (with_reducible refine chn ?_ (by assumption) ?_) | omega | (simp; done) | (simp; omega)))) HG2.out (by (try simp only [World.size_alloc, World.size_setCell]); omega) (fun q e => by have := (HOV.out _ e).1; omega)
              have Pa := lay (Bb.grown (show Bb _ (w.heap.size) 42 #[.int .i64 a0, .slice (some ⟨g, 0, none⟩) n1 c1] from by (repeat' (first | (with_reducible assumption) | (refine Bb.new (by first | (with_reducible rfl) | (simp; done))) | (with_reducible refine Bb.alloc ?_ _) | (with_reducible refine Bb.drew ?_) | (with_reducible refine Bb.drewN ?_ _) | (with_reducible refine Bb.mono ?_ (by assumption)) | (with_reducible refine Bb.far ?_ (by (try simp only [World.size_alloc, World.size_drew]); omega)) | (with_reducible refine Bb.set ?_ rfl) | (with_reducible refine Bb.grown ?_ (by assumption) (by assumption))))) HG2.out nea)
              have Pz := lay (Bb.grown (show Bb _ (w.heap.size + 1) 42 #[.int .i64 0, .slice none 0 0] from by (repeat' (first | (with_reducible assumption) | (refine Bb.new (by first | (with_reducible rfl) | (simp; done))) | (with_reducible refine Bb.alloc ?_ _) | (with_reducible refine Bb.drew ?_) | (with_reducible refine Bb.drewN ?_ _) | (with_reducible refine Bb.mono ?_ (by assumption)) | (with_reducible refine Bb.far ?_ (by (try simp only [World.size_alloc, World.size_drew]); omega)) | (with_reducible refine Bb.set ?_ rfl) | (with_reducible refine Bb.grown ?_ (by assumption) (by assumption))))) HG2.out nez)
              go_roundg r
              case measure => omega
              case rel =>
                refine ⟨j + 1, _, by omega, by go_num, (by show Bb _ _ _ _; exact Pa.out.far (by omega)), (by show Bb _ _ _ _; exact Pz.out.far (by omega)), (by show Bb _ _ _ _; exact Po.out.set rfl), ?_, by (try simp only [World.size_setCell]); omega, by (repeat' (first | (with_reducible exact Below.refl _ _) | (with_reducible assumption) | (with_reducible refine Below.alloc ?_ ?_ _) | (with_reducible refine Below.drew ?_) | (with_reducible refine bdN ?_ _) | (with_reducible refine Below.setCell ?_ ?_ _) | (with_reducible refine chn ?_ (by assumption) ?_) | omega | (simp; done) | (simp; omega)))⟩
                show Own _ _ _ _ _ _
                have h1 := HO2.out
                rw [take_snoc HYX.out] at h1
                exact h1.far (by show w1.heap.size < _; omega) _
            · obtain ⟨h1, h2, h3, h4⟩ := gB_q11 hgx k11
              dsimp only at h1 h2 h3 h4
              obtain ⟨a, rfl⟩ := Int.eq_ofNat_of_zero_le h1
              obtain ⟨b, rfl⟩ := Int.eq_ofNat_of_zero_le h3
              clear hgx
              have HK : Hid (inB k 9 11 = true) := k11
              have hk12 : (k != 12) = true := by have := inB_iff.1 k11; simp; omega
              clear k8 k11
              have h_a : ts[a]? = some (tsG ts (a : Int)) := by have h9 := ts_at (i := (a : Int)) (n := m) (by omega) (by have := HL.out; omega) HM.out; rwa [Int.toNat_natCast] at h9
              obtain ⟨x_a, X_a⟩ : ∃ y, tsG ts (a : Int) = y := ⟨_, rfl⟩
              rw [X_a] at h_a
              obtain ⟨g_a, o_a, e_a, hg_a, q_a⟩ := HB.out.atInt h_a
              cases e_a
              have u_a : wr.cell? ⟨h, a, none⟩ = some (.int .i64 x_a) := (hB'.cell (p := ⟨h, a, none⟩) hg_a).trans (by rw [← q_a, Nat.zero_add])
              have i_a : (a : Int) < (m : Int) := by have := HL.out; omega
              have l_a : h < wr.heap.size := World.block_lt_of_cell? _ _ u_a
              have n_a : h ≠ wr.heap.size := by omega
              have HX_a := lay X_a
              clear h_a q_a X_a
              have h_b : ts[b]? = some (tsG ts (b : Int)) := by have h9 := ts_at (i := (b : Int)) (n := m) (by omega) (by have := HL.out; omega) HM.out; rwa [Int.toNat_natCast] at h9
              obtain ⟨x_b, X_b⟩ : ∃ y, tsG ts (b : Int) = y := ⟨_, rfl⟩
              rw [X_b] at h_b
              obtain ⟨g_b, o_b, e_b, hg_b, q_b⟩ := HB.out.atInt h_b
              cases e_b
              have u_b : wr.cell? ⟨h, b, none⟩ = some (.int .i64 x_b) := (hB'.cell (p := ⟨h, b, none⟩) hg_b).trans (by rw [← q_b, Nat.zero_add])
              have i_b : (b : Int) < (m : Int) := by have := HL.out; omega
              have l_b : h < wr.heap.size := World.block_lt_of_cell? _ _ u_b
              have n_b : h ≠ wr.heap.size := by omega
              have HX_b := lay X_b
              clear h_b q_b X_b
              have HMG : Hid (mapG ts ⟨k, (a : Int), (b : Int)⟩ = ⟨k, x_a, x_b⟩) := by show _ = _; rw [mapG_11 (g := ⟨k, (a : Int), (b : Int)⟩) HK.out]; dsimp only; rw [HX_a.out, HX_b.out]
              have hyl : (xs.map (mapG ts))[j]? = some ⟨k, x_a, x_b⟩ := by rw [List.getElem?_map, HX.out]; exact congrArg some HMG.out
              have HYX := lay hyl
              clear hyl
              have hov := HOv.out.lt
              have neo : some (w1.heap.size) ≠ v.ownBlock := fun e => by have := (hov _ e.symm).1; omega
              have nea : some (w.heap.size) ≠ v.ownBlock := fun e => by have := (hov _ e.symm).1; omega
              have nez : some (w.heap.size + 1) ≠ v.ownBlock := fun e => by have := (hov _ e.symm).1; omega
              have HOV := lay hov
              have R1 : Bb _ _ _ _ := Xa'.out
              have R2 : Bb _ _ _ _ := Xz'.out
              have R3 : Bb _ _ _ _ := Xo.out
              go_wp2_with (first | (go_at_call 63; ((with_reducible refine (lin HK.out _).mono ?_); rintro ee w4 ⟨rfl, rfl⟩)) | (at_builtin; refine wpList_app1 (E := gateE) rfl _ _ _ rfl (w1.heap.size + 1) 81 i0 _ 24 Try.underlying40 hi0 iz0 iz1 iz2 rfl _ _ j HLT.out (by rfl) (HOv.out.mono (by (repeat' (first | (with_reducible exact Below.refl _ _) | (with_reducible assumption) | (with_reducible refine Below.alloc ?_ ?_ _) | (with_reducible refine Below.drew ?_) | (with_reducible refine bdN ?_ _) | (with_reducible refine Below.setCell ?_ ?_ _) | (with_reducible refine chn ?_ (by assumption) ?_) | omega | (simp; done) | (simp; omega))))) (wr.heap.size + 1) _ ⟨k, x_a, x_b⟩ #[.int .i64 k, .int .i64 x_a, .int .i64 x_b] rfl (by rfl) (heap_new_at (by simp only [World.size_alloc, World.size_setCell])) hmax hby (by (try simp only [World.size_alloc, World.size_setCell]); omega) ?_; intro A2 cp2 w2 hO2 hG2 hat2; have HO2 := lay hO2; have HG2 := lay hG2; have HT2 := lay hat2; clear hO2 hG2 hat2; have hz2' := HG2.out.size; (try simp only [World.size_alloc, World.size_setCell] at hz2'); have Po := lay (Bb.grown (show Bb _ (w1.heap.size) 42 #[.int .i64 n, v] from by (repeat' (first | (with_reducible assumption) | (refine Bb.new (by first | (with_reducible rfl) | (simp; done))) | (with_reducible refine Bb.alloc ?_ _) | (with_reducible refine Bb.drew ?_) | (with_reducible refine Bb.drewN ?_ _) | (with_reducible refine Bb.mono ?_ (by assumption)) | (with_reducible refine Bb.far ?_ (by (try simp only [World.size_alloc, World.size_drew]); omega)) | (with_reducible refine Bb.set ?_ rfl) | (with_reducible refine Bb.grown ?_ (by assumption) (by assumption))))) HG2.out neo); have po0 := Po.out.c 0 rfl; have po1 := Po.out.c 1 rfl; have lpo := Po.out.lt; have fpo := Po.out.f))
              have hB2 : Below w.heap.size w w2 := Below.grown (by (repeat' (first | (with_reducible exact Below.refl _ _) | (with_reducible assumption) | (with_reducible refine Below.alloc ?_ ?_ _) | (with_reducible refine Below.drew ?_) | (with_reducible refine bdN ?_ _) | (with_reducible refine Below.setCell ?_ ?_ _) | (with_reducible refine chn ?_ (by assumption) ?_) | omega | (simp; done) | (simp; omega)))) HG2.out (by (try simp only [World.size_alloc, World.size_setCell]); omega) (fun q e => by have := (HOV.out _ e).1; omega)
              have Pa := lay (Bb.grown (show Bb _ (w.heap.size) 42 #[.int .i64 a0, .slice (some ⟨g, 0, none⟩) n1 c1] from by (repeat' (first | (with_reducible assumption) | (refine Bb.new (by first | (with_reducible rfl) | (simp; done))) | (with_reducible refine Bb.alloc ?_ _) | (with_reducible refine Bb.drew ?_) | (with_reducible refine Bb.drewN ?_ _) | (with_reducible refine Bb.mono ?_ (by assumption)) | (with_reducible refine Bb.far ?_ (by (try simp only [World.size_alloc, World.size_drew]); omega)) | (with_reducible refine Bb.set ?_ rfl) | (with_reducible refine Bb.grown ?_ (by assumption) (by assumption))))) HG2.out nea)
              have Pz := lay (Bb.grown (show Bb _ (w.heap.size + 1) 42 #[.int .i64 0, .slice none 0 0] from by (repeat' (first | (with_reducible assumption) | (refine Bb.new (by first | (with_reducible rfl) | (simp; done))) | (with_reducible refine Bb.alloc ?_ _) | (with_reducible refine Bb.drew ?_) | (with_reducible refine Bb.drewN ?_ _) | (with_reducible refine Bb.mono ?_ (by assumption)) | (with_reducible refine Bb.far ?_ (by (try simp only [World.size_alloc, World.size_drew]); omega)) | (with_reducible refine Bb.set ?_ rfl) | (with_reducible refine Bb.grown ?_ (by assumption) (by assumption))))) HG2.out nez)
              go_roundg r
              case measure => omega
              case rel =>
                refine ⟨j + 1, _, by omega, by go_num, (by show Bb _ _ _ _; exact Pa.out.far (by omega)), (by show Bb _ _ _ _; exact Pz.out.far (by omega)), (by show Bb _ _ _ _; exact Po.out.set rfl), ?_, by (try simp only [World.size_setCell]); omega, by (repeat' (first | (with_reducible exact Below.refl _ _) | (with_reducible assumption) | (with_reducible refine Below.alloc ?_ ?_ _) | (with_reducible refine Below.drew ?_) | (with_reducible refine bdN ?_ _) | (with_reducible refine Below.setCell ?_ ?_ _) | (with_reducible refine chn ?_ (by assumption) ?_) | omega | (simp; done) | (simp; omega)))⟩
                show Own _ _ _ _ _ _
                have h1 := HO2.out
                rw [take_snoc HYX.out] at h1
                exact h1.far (by show w1.heap.size < _; omega) _
          · have k11 : inB k 9 11 = false := by have := inB_iff.1 k8; cases h : inB k 9 11; rfl; have := inB_iff.1 h; omega
            obtain ⟨h1, h2, h3⟩ := gB_q8 hgx k8
            dsimp only at h1 h2 h3
            subst h3
            obtain ⟨a, rfl⟩ := Int.eq_ofNat_of_zero_le h1
            clear hgx
            have HK : Hid (inB k 1 8 = true) := k8
            have HI : Hid (inB k 9 11 = false) := k11
            have hk12 : (k != 12) = true := by have := inB_iff.1 k8; simp; omega
            clear k8 k11
            have h_a : ts[a]? = some (tsG ts (a : Int)) := by have h9 := ts_at (i := (a : Int)) (n := m) (by omega) (by have := HL.out; omega) HM.out; rwa [Int.toNat_natCast] at h9
            obtain ⟨x_a, X_a⟩ : ∃ y, tsG ts (a : Int) = y := ⟨_, rfl⟩
            rw [X_a] at h_a
            obtain ⟨g_a, o_a, e_a, hg_a, q_a⟩ := HB.out.atInt h_a
            cases e_a
            have u_a : wr.cell? ⟨h, a, none⟩ = some (.int .i64 x_a) := (hB'.cell (p := ⟨h, a, none⟩) hg_a).trans (by rw [← q_a, Nat.zero_add])
            have i_a : (a : Int) < (m : Int) := by have := HL.out; omega
            have l_a : h < wr.heap.size := World.block_lt_of_cell? _ _ u_a
            have n_a : h ≠ wr.heap.size := by omega
            have HX_a := lay X_a
            clear h_a q_a X_a
            have HMG : Hid (mapG ts ⟨k, (a : Int), 0⟩ = ⟨k, x_a, 0⟩) := by show _ = _; rw [mapG_8 (g := ⟨k, (a : Int), 0⟩) HK.out]; dsimp only; rw [HX_a.out]
            have hyl : (xs.map (mapG ts))[j]? = some ⟨k, x_a, 0⟩ := by rw [List.getElem?_map, HX.out]; exact congrArg some HMG.out
            have HYX := lay hyl
            clear hyl
            have hov := HOv.out.lt
            have neo : some (w1.heap.size) ≠ v.ownBlock := fun e => by have := (hov _ e.symm).1; omega
            have nea : some (w.heap.size) ≠ v.ownBlock := fun e => by have := (hov _ e.symm).1; omega
            have nez : some (w.heap.size + 1) ≠ v.ownBlock := fun e => by have := (hov _ e.symm).1; omega
            have HOV := lay hov
            have R1 : Bb _ _ _ _ := Xa'.out
            have R2 : Bb _ _ _ _ := Xz'.out
            have R3 : Bb _ _ _ _ := Xo.out
            go_wp2_with (first | (go_at_call 63; ((with_reducible refine (lin HI.out _).mono ?_); rintro ee w4 ⟨rfl, rfl⟩)) | (at_builtin; refine wpList_app1 (E := gateE) rfl _ _ _ rfl (w1.heap.size + 1) 81 i0 _ 24 Try.underlying40 hi0 iz0 iz1 iz2 rfl _ _ j HLT.out (by rfl) (HOv.out.mono (by (repeat' (first | (with_reducible exact Below.refl _ _) | (with_reducible assumption) | (with_reducible refine Below.alloc ?_ ?_ _) | (with_reducible refine Below.drew ?_) | (with_reducible refine bdN ?_ _) | (with_reducible refine Below.setCell ?_ ?_ _) | (with_reducible refine chn ?_ (by assumption) ?_) | omega | (simp; done) | (simp; omega))))) (wr.heap.size + 1) _ ⟨k, x_a, 0⟩ #[.int .i64 k, .int .i64 x_a, .int .i64 0] rfl (by rfl) (heap_new_at (by simp only [World.size_alloc, World.size_setCell])) hmax hby (by (try simp only [World.size_alloc, World.size_setCell]); omega) ?_; intro A2 cp2 w2 hO2 hG2 hat2; have HO2 := lay hO2; have HG2 := lay hG2; have HT2 := lay hat2; clear hO2 hG2 hat2; have hz2' := HG2.out.size; (try simp only [World.size_alloc, World.size_setCell] at hz2'); have Po := lay (Bb.grown (show Bb _ (w1.heap.size) 42 #[.int .i64 n, v] from by (repeat' (first | (with_reducible assumption) | (refine Bb.new (by first | (with_reducible rfl) | (simp; done))) | (with_reducible refine Bb.alloc ?_ _) | (with_reducible refine Bb.drew ?_) | (with_reducible refine Bb.drewN ?_ _) | (with_reducible refine Bb.mono ?_ (by assumption)) | (with_reducible refine Bb.far ?_ (by (try simp only [World.size_alloc, World.size_drew]); omega)) | (with_reducible refine Bb.set ?_ rfl) | (with_reducible refine Bb.grown ?_ (by assumption) (by assumption))))) HG2.out neo); have po0 := Po.out.c 0 rfl; have po1 := Po.out.c 1 rfl; have lpo := Po.out.lt; have fpo := Po.out.f))
            have hB2 : Below w.heap.size w w2 := Below.grown (by (repeat' (first | (with_reducible exact Below.refl _ _) | (with_reducible assumption) | (with_reducible refine Below.alloc ?_ ?_ _) | (with_reducible refine Below.drew ?_) | (with_reducible refine bdN ?_ _) | (with_reducible refine Below.setCell ?_ ?_ _) | (with_reducible refine chn ?_ (by assumption) ?_) | omega | (simp; done) | (simp; omega)))) HG2.out (by (try simp only [World.size_alloc, World.size_setCell]); omega) (fun q e => by have := (HOV.out _ e).1; omega)
            have Pa := lay (Bb.grown (show Bb _ (w.heap.size) 42 #[.int .i64 a0, .slice (some ⟨g, 0, none⟩) n1 c1] from by (repeat' (first | (with_reducible assumption) | (refine Bb.new (by first | (with_reducible rfl) | (simp; done))) | (with_reducible refine Bb.alloc ?_ _) | (with_reducible refine Bb.drew ?_) | (with_reducible refine Bb.drewN ?_ _) | (with_reducible refine Bb.mono ?_ (by assumption)) | (with_reducible refine Bb.far ?_ (by (try simp only [World.size_alloc, World.size_drew]); omega)) | (with_reducible refine Bb.set ?_ rfl) | (with_reducible refine Bb.grown ?_ (by assumption) (by assumption))))) HG2.out nea)
            have Pz := lay (Bb.grown (show Bb _ (w.heap.size + 1) 42 #[.int .i64 0, .slice none 0 0] from by (repeat' (first | (with_reducible assumption) | (refine Bb.new (by first | (with_reducible rfl) | (simp; done))) | (with_reducible refine Bb.alloc ?_ _) | (with_reducible refine Bb.drew ?_) | (with_reducible refine Bb.drewN ?_ _) | (with_reducible refine Bb.mono ?_ (by assumption)) | (with_reducible refine Bb.far ?_ (by (try simp only [World.size_alloc, World.size_drew]); omega)) | (with_reducible refine Bb.set ?_ rfl) | (with_reducible refine Bb.grown ?_ (by assumption) (by assumption))))) HG2.out nez)
            go_roundg r
            case measure => omega
            case rel =>
              refine ⟨j + 1, _, by omega, by go_num, (by show Bb _ _ _ _; exact Pa.out.far (by omega)), (by show Bb _ _ _ _; exact Pz.out.far (by omega)), (by show Bb _ _ _ _; exact Po.out.set rfl), ?_, by (try simp only [World.size_setCell]); omega, by (repeat' (first | (with_reducible exact Below.refl _ _) | (with_reducible assumption) | (with_reducible refine Below.alloc ?_ ?_ _) | (with_reducible refine Below.drew ?_) | (with_reducible refine bdN ?_ _) | (with_reducible refine Below.setCell ?_ ?_ _) | (with_reducible refine chn ?_ (by assumption) ?_) | omega | (simp; done) | (simp; omega)))⟩
              show Own _ _ _ _ _ _
              have h1 := HO2.out
              rw [take_snoc HYX.out] at h1
              exact h1.far (by show w1.heap.size < _; omega) _
    | succ k =>
      have hlt : j < m := by omega
      obtain ⟨x, hx⟩ : ∃ x, ts[j]? = some x := ⟨_, List.getElem?_eq_getElem (by rw [HM.out]; exact hlt)⟩
      obtain ⟨g', o', e', hgw, q0⟩ := HB.out.atInt hx
      cases e'
      have q1 : w1.cell? ⟨h, j, none⟩ = some (.int .i64 x) := (hW1.cell (p := ⟨h, j, none⟩) hgw).trans (by rw [← q0, Nat.zero_add])
      have HX := lay hx
      have HR := lay ((HB.out.mono hW1).take j)
      have HLT : Hid ((ts.take j).length = j) := by show _ = _; rw [List.length_take, HM.out]; omega
      clear hx q0
      have j0 : (0 : Int) ≤ (j : Int) := by omega
      have j1 : (j : Int) ≤ (d1 : Int) := by have := HD.out.1; omega
      by_cases hin : x ∈ ts.take j
      · have HI : Hid (x ∈ ts.take j) := hin
        clear hin
        exact absurd HT2.out (nodup_not HX.out HI.out)
      · have HN1 : Hid (¬ x ∈ ts.take j) := hin
        clear hin
        go_wp2_with (go_at_call 59; ((with_reducible refine (lhas (t := false) (Iff.intro (fun k => (by cases k)) (fun k => absurd k HN1.out)) HR.out HLT.out (by omega)).mono ?_); rintro ee w5 ⟨rfl, rfl⟩))
        go_roundg k
        case measure => omega
        case rel =>
          refine ⟨j + 1, by omega, by go_num, ?_, rfl⟩
          show List.Nodup _
          exact nodup_take HX.out HJ.out HN1.out


end Go.Proofs.Ytdbnjoeanoiifaa
