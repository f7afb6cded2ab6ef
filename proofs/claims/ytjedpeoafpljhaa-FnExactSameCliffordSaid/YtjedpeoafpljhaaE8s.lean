/- SameClifford. -/
import Derived.Test.YtjedpeoafpljhaaE8p
import Derived.Test.YtjedpeoafpljhaaE8q
import Derived.Test.YtjedpeoafpljhaaE8r
import Derived.Test.YtjedpeoafpljhaaE8g
namespace Go.Proofs.Ytjedpeoafpljhaa.C4
open Go.RowKit
set_option linter.unusedVariables false
set_option linter.unusedSimpArgs false
attribute [local irreducible] World.setCell

theorem boolOf2 {P : Prop} : ∃ t : Bool, t = true ↔ P := by
  by_cases h : P
  · exact ⟨true, fun _ => h, fun _ => rfl⟩
  · exact ⟨false, (fun k => by cases k), fun k => absurd k h⟩
set_option maxRecDepth 100000 in
set_option maxHeartbeats 2000000 in
theorem ti_any {a0 : Int} {A : Option Addr} {n1 c1 : Nat} {xs : List GateV} {w : World} {q : Bool} (hq : q = true ↔ (okC a0 n1 xs = true ∧ noT xs)) (hA : Rd gateE w A xs) (hn : xs.length = n1) (hm : n1 ≤ maxLen) :
    Calls Try.prog 32 #[circuitV a0 A n1 c1] w fun ee w' => ∃ (t0 : Int) (A1 : Option Addr) (m1 k1 : Nat) (A2 : Option Addr) (m2 k2 : Nat), ee = .returned (.tuple #[.agg #[.int .i64 t0, .slice A1 m1 k1, .slice A2 m2 k2], .bool q]) ∧ Below w.heap.size w w' := by
  cases q
  · refine (ti_f (xs := xs) (fun h => by cases (hq.2 h)) hA hn hm).mono ?_
    rintro ee w1 ⟨rfl, hb1⟩
    exact ⟨0, none, 0, 0, none, 0, 0, rfl, hb1⟩
  · obtain ⟨hok, hT⟩ := hq.1 rfl
    obtain ⟨l1, l2, l3, l4⟩ := okC_iff.1 hok
    obtain ⟨n, rfl⟩ := Int.eq_ofNat_of_zero_le (show 0 ≤ a0 by omega)
    obtain ⟨q1, q5, h4, hg⟩ := okC_G hok hT
    refine (ti_t q1 q5 h4 hok hT hg hA hn).mono ?_
    rintro ee w1 ⟨A1, k1, A2, k2, rfl, -, -, -, hb1⟩
    exact ⟨(n : Int), A1, n, k1, A2, n, k2, rfl, hb1⟩
set_option maxRecDepth 100000 in
set_option maxHeartbeats 2000000 in
theorem l7cl_any {a0 : Int} {A : Option Addr} {n1 c1 : Nat} {xs : List GateV} {w : World} {q : Bool} (hq : q = true ↔ (okC a0 n1 xs = true ∧ noT xs)) (hA : Rd gateE w A xs) (hn : xs.length = n1) (hm : n1 ≤ maxLen) :
    Calls Try.prog 81 #[circuitV a0 A n1 c1] w fun ee w' => ee = .returned (.bool q) ∧ Below w.heap.size w w' := by
  cases q
  · cases hok : okC a0 n1 xs
    · exact l7cl_f hok hA hn hm
    · exact l7cl_n hok (fun h => by cases (hq.2 ⟨hok, h⟩)) hA hn hm
  · exact l7cl_t (hq.1 rfl).1 (hq.1 rfl).2 hA hn hm
set_option maxRecDepth 100000 in
set_option maxHeartbeats 4000000 in
theorem sc_i_f {a0 b0 : Int} {A B : Option Addr} {n1 m1 c1 d1 : Nat} {xs ys : List GateV} {w : World} {qa qb : Bool} (ha : qa = true ↔ (okC a0 n1 xs = true ∧ noT xs)) (hb : qb = true ↔ (okC b0 m1 ys = true ∧ noT ys)) (hf : qa = true → qb = true → a0 ≠ b0) (hA : Rd gateE w A xs) (hB : Rd gateE w B ys) (hn : xs.length = n1) (hk : ys.length = m1) (hm : n1 ≤ maxLen) (hl : m1 ≤ maxLen) :
    Calls Try.prog 43 #[circuitV a0 A n1 c1, circuitV b0 B m1 d1] w fun ee w' => ee = .returned (.tuple #[.bool false, .bool false]) ∧ Below w.heap.size w w' := by
  have HA := lay hA
  have HB := lay hB
  clear hA hB
  cases qa
  · cases qb
    · skip
      have PQ : Hid (¬ (okC a0 n1 xs = true ∧ noT xs)) := fun h => by cases (ha.2 h)
      have PR : Hid (¬ (okC b0 m1 ys = true ∧ noT ys)) := fun h => by cases (hb.2 h)
      clear hf ha hb
      go_enter Try.func43, Try.ntmps43
      go_wp2_with (fail)
      refine (ti_any (xs := xs) (q := false) ⟨fun h => (by cases h), fun h => absurd h PQ.out⟩ ?_ hn hm).mono ?_
      · exact HA.out.mono (by (repeat' (first | (with_reducible exact Below.refl _ _) | (with_reducible assumption) | (with_reducible refine Below.alloc ?_ ?_ _) | (with_reducible refine Below.drew ?_) | (with_reducible refine bdN ?_ _) | (with_reducible refine Below.setCell ?_ ?_ _) | (with_reducible refine chn ?_ (by assumption) ?_) | omega | (simp; done) | (simp; omega))))
      rintro ee w1 ⟨t0, A5, m5, k5, B5, p5, q5, rfl, hb1⟩
      have hz1 := hb1.size
      (try simp only [World.size_alloc] at hz1)
      have Ya : Hid (Bb w1 (w.heap.size) 58 #[.int .i64 a0, .slice A n1 c1]) := by show Bb _ _ _ _; (repeat' (first | (with_reducible assumption) | (refine Bb.new (by first | (with_reducible rfl) | (simp; done))) | (with_reducible refine Bb.alloc ?_ _) | (with_reducible refine Bb.drew ?_) | (with_reducible refine Bb.drewN ?_ _) | (with_reducible refine Bb.mono ?_ (by assumption)) | (with_reducible refine Bb.far ?_ (by (try simp only [World.size_alloc, World.size_drew]); omega)) | (with_reducible refine Bb.set ?_ rfl) | (with_reducible refine Bb.grown ?_ (by assumption) (by assumption))))
      have Yb : Hid (Bb w1 (w.heap.size + 1) 58 #[.int .i64 b0, .slice B m1 d1]) := by show Bb _ _ _ _; (repeat' (first | (with_reducible assumption) | (refine Bb.new (by first | (with_reducible rfl) | (simp; done))) | (with_reducible refine Bb.alloc ?_ _) | (with_reducible refine Bb.drew ?_) | (with_reducible refine Bb.drewN ?_ _) | (with_reducible refine Bb.mono ?_ (by assumption)) | (with_reducible refine Bb.far ?_ (by (try simp only [World.size_alloc, World.size_drew]); omega)) | (with_reducible refine Bb.set ?_ rfl) | (with_reducible refine Bb.grown ?_ (by assumption) (by assumption))))
      have Xa := Ya
      clear Ya
      have Xb := Yb
      clear Yb
      have hB1 : Below w.heap.size w w1 := by (repeat' (first | (with_reducible exact Below.refl _ _) | (with_reducible assumption) | (with_reducible refine Below.alloc ?_ ?_ _) | (with_reducible refine Below.drew ?_) | (with_reducible refine bdN ?_ _) | (with_reducible refine Below.setCell ?_ ?_ _) | (with_reducible refine chn ?_ (by assumption) ?_) | omega | (simp; done) | (simp; omega)))
      clear hb1
      have ca0 := Xa.out.c 0 rfl
      have ca1 := Xa.out.c 1 rfl
      have cb0 := Xb.out.c 0 rfl
      have cb1 := Xb.out.c 1 rfl
      have la := Xa.out.lt
      have lb := Xb.out.lt
      go_wp2_with (fail)
      refine (ti_any (xs := ys) (q := false) ⟨fun h => (by cases h), fun h => absurd h PR.out⟩ ?_ hk hl).mono ?_
      · exact HB.out.mono (by (repeat' (first | (with_reducible exact Below.refl _ _) | (with_reducible assumption) | (with_reducible refine Below.alloc ?_ ?_ _) | (with_reducible refine Below.drew ?_) | (with_reducible refine bdN ?_ _) | (with_reducible refine Below.setCell ?_ ?_ _) | (with_reducible refine chn ?_ (by assumption) ?_) | omega | (simp; done) | (simp; omega))))
      rintro ee w2 ⟨t1, A6, m6, k6, B6, p6, q6, rfl, hb2⟩
      have hz2 := hb2.size
      (try simp only [World.size_alloc] at hz2)
      clear ca0 ca1 cb0 cb1 la lb 
      have Ra := Xa.out
      have Rb := Xb.out
      have Ya : Hid (Bb w2 (w.heap.size) 58 #[.int .i64 a0, .slice A n1 c1]) := by show Bb _ _ _ _; (repeat' (first | (with_reducible assumption) | (refine Bb.new (by first | (with_reducible rfl) | (simp; done))) | (with_reducible refine Bb.alloc ?_ _) | (with_reducible refine Bb.drew ?_) | (with_reducible refine Bb.drewN ?_ _) | (with_reducible refine Bb.mono ?_ (by assumption)) | (with_reducible refine Bb.far ?_ (by (try simp only [World.size_alloc, World.size_drew]); omega)) | (with_reducible refine Bb.set ?_ rfl) | (with_reducible refine Bb.grown ?_ (by assumption) (by assumption))))
      have Yb : Hid (Bb w2 (w.heap.size + 1) 58 #[.int .i64 b0, .slice B m1 d1]) := by show Bb _ _ _ _; (repeat' (first | (with_reducible assumption) | (refine Bb.new (by first | (with_reducible rfl) | (simp; done))) | (with_reducible refine Bb.alloc ?_ _) | (with_reducible refine Bb.drew ?_) | (with_reducible refine Bb.drewN ?_ _) | (with_reducible refine Bb.mono ?_ (by assumption)) | (with_reducible refine Bb.far ?_ (by (try simp only [World.size_alloc, World.size_drew]); omega)) | (with_reducible refine Bb.set ?_ rfl) | (with_reducible refine Bb.grown ?_ (by assumption) (by assumption))))
      clear Ra Xa Rb Xb
      have Xa := Ya
      clear Ya
      have Xb := Yb
      clear Yb
      have hB2 : Below w.heap.size w w2 := by (repeat' (first | (with_reducible exact Below.refl _ _) | (with_reducible assumption) | (with_reducible refine Below.alloc ?_ ?_ _) | (with_reducible refine Below.drew ?_) | (with_reducible refine bdN ?_ _) | (with_reducible refine Below.setCell ?_ ?_ _) | (with_reducible refine chn ?_ (by assumption) ?_) | omega | (simp; done) | (simp; omega)))
      clear hb2
      have ca0 := Xa.out.c 0 rfl
      have ca1 := Xa.out.c 1 rfl
      have cb0 := Xb.out.c 0 rfl
      have cb1 := Xb.out.c 1 rfl
      have la := Xa.out.lt
      have lb := Xb.out.lt
      go_wp2_with (fail)
      refine bodyPost_ret (v := .tuple #[.bool false, .bool false]) (by first | (simp [results, Try.results43, go_sem, *]; done) | (simp (disch := (first | omega | (simp; done) | (simp; omega))) [results, Try.results43, go_sem, *]; done) | (simp only [results, Try.results43]; go_simp; done)) rfl ⟨rfl, ?_⟩
      (repeat' (first | (with_reducible exact Below.refl _ _) | (with_reducible assumption) | (with_reducible refine Below.alloc ?_ ?_ _) | (with_reducible refine Below.drew ?_) | (with_reducible refine bdN ?_ _) | (with_reducible refine Below.setCell ?_ ?_ _) | (with_reducible refine chn ?_ (by assumption) ?_) | omega | (simp; done) | (simp; omega)))
    · skip
      have PQ : Hid (¬ (okC a0 n1 xs = true ∧ noT xs)) := fun h => by cases (ha.2 h)
      have PR : Hid (okC b0 m1 ys = true ∧ noT ys) := hb.1 rfl
      clear hf ha hb
      go_enter Try.func43, Try.ntmps43
      go_wp2_with (fail)
      refine (ti_any (xs := xs) (q := false) ⟨fun h => (by cases h), fun h => absurd h PQ.out⟩ ?_ hn hm).mono ?_
      · exact HA.out.mono (by (repeat' (first | (with_reducible exact Below.refl _ _) | (with_reducible assumption) | (with_reducible refine Below.alloc ?_ ?_ _) | (with_reducible refine Below.drew ?_) | (with_reducible refine bdN ?_ _) | (with_reducible refine Below.setCell ?_ ?_ _) | (with_reducible refine chn ?_ (by assumption) ?_) | omega | (simp; done) | (simp; omega))))
      rintro ee w1 ⟨t0, A5, m5, k5, B5, p5, q5, rfl, hb1⟩
      have hz1 := hb1.size
      (try simp only [World.size_alloc] at hz1)
      have Ya : Hid (Bb w1 (w.heap.size) 58 #[.int .i64 a0, .slice A n1 c1]) := by show Bb _ _ _ _; (repeat' (first | (with_reducible assumption) | (refine Bb.new (by first | (with_reducible rfl) | (simp; done))) | (with_reducible refine Bb.alloc ?_ _) | (with_reducible refine Bb.drew ?_) | (with_reducible refine Bb.drewN ?_ _) | (with_reducible refine Bb.mono ?_ (by assumption)) | (with_reducible refine Bb.far ?_ (by (try simp only [World.size_alloc, World.size_drew]); omega)) | (with_reducible refine Bb.set ?_ rfl) | (with_reducible refine Bb.grown ?_ (by assumption) (by assumption))))
      have Yb : Hid (Bb w1 (w.heap.size + 1) 58 #[.int .i64 b0, .slice B m1 d1]) := by show Bb _ _ _ _; (repeat' (first | (with_reducible assumption) | (refine Bb.new (by first | (with_reducible rfl) | (simp; done))) | (with_reducible refine Bb.alloc ?_ _) | (with_reducible refine Bb.drew ?_) | (with_reducible refine Bb.drewN ?_ _) | (with_reducible refine Bb.mono ?_ (by assumption)) | (with_reducible refine Bb.far ?_ (by (try simp only [World.size_alloc, World.size_drew]); omega)) | (with_reducible refine Bb.set ?_ rfl) | (with_reducible refine Bb.grown ?_ (by assumption) (by assumption))))
      have Xa := Ya
      clear Ya
      have Xb := Yb
      clear Yb
      have hB1 : Below w.heap.size w w1 := by (repeat' (first | (with_reducible exact Below.refl _ _) | (with_reducible assumption) | (with_reducible refine Below.alloc ?_ ?_ _) | (with_reducible refine Below.drew ?_) | (with_reducible refine bdN ?_ _) | (with_reducible refine Below.setCell ?_ ?_ _) | (with_reducible refine chn ?_ (by assumption) ?_) | omega | (simp; done) | (simp; omega)))
      clear hb1
      have ca0 := Xa.out.c 0 rfl
      have ca1 := Xa.out.c 1 rfl
      have cb0 := Xb.out.c 0 rfl
      have cb1 := Xb.out.c 1 rfl
      have la := Xa.out.lt
      have lb := Xb.out.lt
      go_wp2_with (fail)
      refine (ti_any (xs := ys) (q := true) ⟨fun _ => PR.out, fun _ => rfl⟩ ?_ hk hl).mono ?_
      · exact HB.out.mono (by (repeat' (first | (with_reducible exact Below.refl _ _) | (with_reducible assumption) | (with_reducible refine Below.alloc ?_ ?_ _) | (with_reducible refine Below.drew ?_) | (with_reducible refine bdN ?_ _) | (with_reducible refine Below.setCell ?_ ?_ _) | (with_reducible refine chn ?_ (by assumption) ?_) | omega | (simp; done) | (simp; omega))))
      rintro ee w2 ⟨t1, A6, m6, k6, B6, p6, q6, rfl, hb2⟩
      have hz2 := hb2.size
      (try simp only [World.size_alloc] at hz2)
      clear ca0 ca1 cb0 cb1 la lb 
      have Ra := Xa.out
      have Rb := Xb.out
      have Ya : Hid (Bb w2 (w.heap.size) 58 #[.int .i64 a0, .slice A n1 c1]) := by show Bb _ _ _ _; (repeat' (first | (with_reducible assumption) | (refine Bb.new (by first | (with_reducible rfl) | (simp; done))) | (with_reducible refine Bb.alloc ?_ _) | (with_reducible refine Bb.drew ?_) | (with_reducible refine Bb.drewN ?_ _) | (with_reducible refine Bb.mono ?_ (by assumption)) | (with_reducible refine Bb.far ?_ (by (try simp only [World.size_alloc, World.size_drew]); omega)) | (with_reducible refine Bb.set ?_ rfl) | (with_reducible refine Bb.grown ?_ (by assumption) (by assumption))))
      have Yb : Hid (Bb w2 (w.heap.size + 1) 58 #[.int .i64 b0, .slice B m1 d1]) := by show Bb _ _ _ _; (repeat' (first | (with_reducible assumption) | (refine Bb.new (by first | (with_reducible rfl) | (simp; done))) | (with_reducible refine Bb.alloc ?_ _) | (with_reducible refine Bb.drew ?_) | (with_reducible refine Bb.drewN ?_ _) | (with_reducible refine Bb.mono ?_ (by assumption)) | (with_reducible refine Bb.far ?_ (by (try simp only [World.size_alloc, World.size_drew]); omega)) | (with_reducible refine Bb.set ?_ rfl) | (with_reducible refine Bb.grown ?_ (by assumption) (by assumption))))
      clear Ra Xa Rb Xb
      have Xa := Ya
      clear Ya
      have Xb := Yb
      clear Yb
      have hB2 : Below w.heap.size w w2 := by (repeat' (first | (with_reducible exact Below.refl _ _) | (with_reducible assumption) | (with_reducible refine Below.alloc ?_ ?_ _) | (with_reducible refine Below.drew ?_) | (with_reducible refine bdN ?_ _) | (with_reducible refine Below.setCell ?_ ?_ _) | (with_reducible refine chn ?_ (by assumption) ?_) | omega | (simp; done) | (simp; omega)))
      clear hb2
      have ca0 := Xa.out.c 0 rfl
      have ca1 := Xa.out.c 1 rfl
      have cb0 := Xb.out.c 0 rfl
      have cb1 := Xb.out.c 1 rfl
      have la := Xa.out.lt
      have lb := Xb.out.lt
      go_wp2_with (fail)
      refine bodyPost_ret (v := .tuple #[.bool false, .bool false]) (by first | (simp [results, Try.results43, go_sem, *]; done) | (simp (disch := (first | omega | (simp; done) | (simp; omega))) [results, Try.results43, go_sem, *]; done) | (simp only [results, Try.results43]; go_simp; done)) rfl ⟨rfl, ?_⟩
      (repeat' (first | (with_reducible exact Below.refl _ _) | (with_reducible assumption) | (with_reducible refine Below.alloc ?_ ?_ _) | (with_reducible refine Below.drew ?_) | (with_reducible refine bdN ?_ _) | (with_reducible refine Below.setCell ?_ ?_ _) | (with_reducible refine chn ?_ (by assumption) ?_) | omega | (simp; done) | (simp; omega)))
  · cases qb
    · skip
      have PQ : Hid (okC a0 n1 xs = true ∧ noT xs) := ha.1 rfl
      have PR : Hid (¬ (okC b0 m1 ys = true ∧ noT ys)) := fun h => by cases (hb.2 h)
      clear hf ha hb
      go_enter Try.func43, Try.ntmps43
      go_wp2_with (fail)
      refine (ti_any (xs := xs) (q := true) ⟨fun _ => PQ.out, fun _ => rfl⟩ ?_ hn hm).mono ?_
      · exact HA.out.mono (by (repeat' (first | (with_reducible exact Below.refl _ _) | (with_reducible assumption) | (with_reducible refine Below.alloc ?_ ?_ _) | (with_reducible refine Below.drew ?_) | (with_reducible refine bdN ?_ _) | (with_reducible refine Below.setCell ?_ ?_ _) | (with_reducible refine chn ?_ (by assumption) ?_) | omega | (simp; done) | (simp; omega))))
      rintro ee w1 ⟨t0, A5, m5, k5, B5, p5, q5, rfl, hb1⟩
      have hz1 := hb1.size
      (try simp only [World.size_alloc] at hz1)
      have Ya : Hid (Bb w1 (w.heap.size) 58 #[.int .i64 a0, .slice A n1 c1]) := by show Bb _ _ _ _; (repeat' (first | (with_reducible assumption) | (refine Bb.new (by first | (with_reducible rfl) | (simp; done))) | (with_reducible refine Bb.alloc ?_ _) | (with_reducible refine Bb.drew ?_) | (with_reducible refine Bb.drewN ?_ _) | (with_reducible refine Bb.mono ?_ (by assumption)) | (with_reducible refine Bb.far ?_ (by (try simp only [World.size_alloc, World.size_drew]); omega)) | (with_reducible refine Bb.set ?_ rfl) | (with_reducible refine Bb.grown ?_ (by assumption) (by assumption))))
      have Yb : Hid (Bb w1 (w.heap.size + 1) 58 #[.int .i64 b0, .slice B m1 d1]) := by show Bb _ _ _ _; (repeat' (first | (with_reducible assumption) | (refine Bb.new (by first | (with_reducible rfl) | (simp; done))) | (with_reducible refine Bb.alloc ?_ _) | (with_reducible refine Bb.drew ?_) | (with_reducible refine Bb.drewN ?_ _) | (with_reducible refine Bb.mono ?_ (by assumption)) | (with_reducible refine Bb.far ?_ (by (try simp only [World.size_alloc, World.size_drew]); omega)) | (with_reducible refine Bb.set ?_ rfl) | (with_reducible refine Bb.grown ?_ (by assumption) (by assumption))))
      have Xa := Ya
      clear Ya
      have Xb := Yb
      clear Yb
      have hB1 : Below w.heap.size w w1 := by (repeat' (first | (with_reducible exact Below.refl _ _) | (with_reducible assumption) | (with_reducible refine Below.alloc ?_ ?_ _) | (with_reducible refine Below.drew ?_) | (with_reducible refine bdN ?_ _) | (with_reducible refine Below.setCell ?_ ?_ _) | (with_reducible refine chn ?_ (by assumption) ?_) | omega | (simp; done) | (simp; omega)))
      clear hb1
      have ca0 := Xa.out.c 0 rfl
      have ca1 := Xa.out.c 1 rfl
      have cb0 := Xb.out.c 0 rfl
      have cb1 := Xb.out.c 1 rfl
      have la := Xa.out.lt
      have lb := Xb.out.lt
      go_wp2_with (fail)
      refine (ti_any (xs := ys) (q := false) ⟨fun h => (by cases h), fun h => absurd h PR.out⟩ ?_ hk hl).mono ?_
      · exact HB.out.mono (by (repeat' (first | (with_reducible exact Below.refl _ _) | (with_reducible assumption) | (with_reducible refine Below.alloc ?_ ?_ _) | (with_reducible refine Below.drew ?_) | (with_reducible refine bdN ?_ _) | (with_reducible refine Below.setCell ?_ ?_ _) | (with_reducible refine chn ?_ (by assumption) ?_) | omega | (simp; done) | (simp; omega))))
      rintro ee w2 ⟨t1, A6, m6, k6, B6, p6, q6, rfl, hb2⟩
      have hz2 := hb2.size
      (try simp only [World.size_alloc] at hz2)
      clear ca0 ca1 cb0 cb1 la lb 
      have Ra := Xa.out
      have Rb := Xb.out
      have Ya : Hid (Bb w2 (w.heap.size) 58 #[.int .i64 a0, .slice A n1 c1]) := by show Bb _ _ _ _; (repeat' (first | (with_reducible assumption) | (refine Bb.new (by first | (with_reducible rfl) | (simp; done))) | (with_reducible refine Bb.alloc ?_ _) | (with_reducible refine Bb.drew ?_) | (with_reducible refine Bb.drewN ?_ _) | (with_reducible refine Bb.mono ?_ (by assumption)) | (with_reducible refine Bb.far ?_ (by (try simp only [World.size_alloc, World.size_drew]); omega)) | (with_reducible refine Bb.set ?_ rfl) | (with_reducible refine Bb.grown ?_ (by assumption) (by assumption))))
      have Yb : Hid (Bb w2 (w.heap.size + 1) 58 #[.int .i64 b0, .slice B m1 d1]) := by show Bb _ _ _ _; (repeat' (first | (with_reducible assumption) | (refine Bb.new (by first | (with_reducible rfl) | (simp; done))) | (with_reducible refine Bb.alloc ?_ _) | (with_reducible refine Bb.drew ?_) | (with_reducible refine Bb.drewN ?_ _) | (with_reducible refine Bb.mono ?_ (by assumption)) | (with_reducible refine Bb.far ?_ (by (try simp only [World.size_alloc, World.size_drew]); omega)) | (with_reducible refine Bb.set ?_ rfl) | (with_reducible refine Bb.grown ?_ (by assumption) (by assumption))))
      clear Ra Xa Rb Xb
      have Xa := Ya
      clear Ya
      have Xb := Yb
      clear Yb
      have hB2 : Below w.heap.size w w2 := by (repeat' (first | (with_reducible exact Below.refl _ _) | (with_reducible assumption) | (with_reducible refine Below.alloc ?_ ?_ _) | (with_reducible refine Below.drew ?_) | (with_reducible refine bdN ?_ _) | (with_reducible refine Below.setCell ?_ ?_ _) | (with_reducible refine chn ?_ (by assumption) ?_) | omega | (simp; done) | (simp; omega)))
      clear hb2
      have ca0 := Xa.out.c 0 rfl
      have ca1 := Xa.out.c 1 rfl
      have cb0 := Xb.out.c 0 rfl
      have cb1 := Xb.out.c 1 rfl
      have la := Xa.out.lt
      have lb := Xb.out.lt
      go_wp2_with (fail)
      refine bodyPost_ret (v := .tuple #[.bool false, .bool false]) (by first | (simp [results, Try.results43, go_sem, *]; done) | (simp (disch := (first | omega | (simp; done) | (simp; omega))) [results, Try.results43, go_sem, *]; done) | (simp only [results, Try.results43]; go_simp; done)) rfl ⟨rfl, ?_⟩
      (repeat' (first | (with_reducible exact Below.refl _ _) | (with_reducible assumption) | (with_reducible refine Below.alloc ?_ ?_ _) | (with_reducible refine Below.drew ?_) | (with_reducible refine bdN ?_ _) | (with_reducible refine Below.setCell ?_ ?_ _) | (with_reducible refine chn ?_ (by assumption) ?_) | omega | (simp; done) | (simp; omega)))
    · skip
      have PQ : Hid (okC a0 n1 xs = true ∧ noT xs) := ha.1 rfl
      have PR : Hid (okC b0 m1 ys = true ∧ noT ys) := hb.1 rfl
      have hne : (a0 != b0) = true := by simpa using hf rfl rfl
      clear hf ha hb
      go_enter Try.func43, Try.ntmps43
      go_wp2_with (fail)
      refine (ti_any (xs := xs) (q := true) ⟨fun _ => PQ.out, fun _ => rfl⟩ ?_ hn hm).mono ?_
      · exact HA.out.mono (by (repeat' (first | (with_reducible exact Below.refl _ _) | (with_reducible assumption) | (with_reducible refine Below.alloc ?_ ?_ _) | (with_reducible refine Below.drew ?_) | (with_reducible refine bdN ?_ _) | (with_reducible refine Below.setCell ?_ ?_ _) | (with_reducible refine chn ?_ (by assumption) ?_) | omega | (simp; done) | (simp; omega))))
      rintro ee w1 ⟨t0, A5, m5, k5, B5, p5, q5, rfl, hb1⟩
      have hz1 := hb1.size
      (try simp only [World.size_alloc] at hz1)
      have Ya : Hid (Bb w1 (w.heap.size) 58 #[.int .i64 a0, .slice A n1 c1]) := by show Bb _ _ _ _; (repeat' (first | (with_reducible assumption) | (refine Bb.new (by first | (with_reducible rfl) | (simp; done))) | (with_reducible refine Bb.alloc ?_ _) | (with_reducible refine Bb.drew ?_) | (with_reducible refine Bb.drewN ?_ _) | (with_reducible refine Bb.mono ?_ (by assumption)) | (with_reducible refine Bb.far ?_ (by (try simp only [World.size_alloc, World.size_drew]); omega)) | (with_reducible refine Bb.set ?_ rfl) | (with_reducible refine Bb.grown ?_ (by assumption) (by assumption))))
      have Yb : Hid (Bb w1 (w.heap.size + 1) 58 #[.int .i64 b0, .slice B m1 d1]) := by show Bb _ _ _ _; (repeat' (first | (with_reducible assumption) | (refine Bb.new (by first | (with_reducible rfl) | (simp; done))) | (with_reducible refine Bb.alloc ?_ _) | (with_reducible refine Bb.drew ?_) | (with_reducible refine Bb.drewN ?_ _) | (with_reducible refine Bb.mono ?_ (by assumption)) | (with_reducible refine Bb.far ?_ (by (try simp only [World.size_alloc, World.size_drew]); omega)) | (with_reducible refine Bb.set ?_ rfl) | (with_reducible refine Bb.grown ?_ (by assumption) (by assumption))))
      have Xa := Ya
      clear Ya
      have Xb := Yb
      clear Yb
      have hB1 : Below w.heap.size w w1 := by (repeat' (first | (with_reducible exact Below.refl _ _) | (with_reducible assumption) | (with_reducible refine Below.alloc ?_ ?_ _) | (with_reducible refine Below.drew ?_) | (with_reducible refine bdN ?_ _) | (with_reducible refine Below.setCell ?_ ?_ _) | (with_reducible refine chn ?_ (by assumption) ?_) | omega | (simp; done) | (simp; omega)))
      clear hb1
      have ca0 := Xa.out.c 0 rfl
      have ca1 := Xa.out.c 1 rfl
      have cb0 := Xb.out.c 0 rfl
      have cb1 := Xb.out.c 1 rfl
      have la := Xa.out.lt
      have lb := Xb.out.lt
      go_wp2_with (fail)
      refine (ti_any (xs := ys) (q := true) ⟨fun _ => PR.out, fun _ => rfl⟩ ?_ hk hl).mono ?_
      · exact HB.out.mono (by (repeat' (first | (with_reducible exact Below.refl _ _) | (with_reducible assumption) | (with_reducible refine Below.alloc ?_ ?_ _) | (with_reducible refine Below.drew ?_) | (with_reducible refine bdN ?_ _) | (with_reducible refine Below.setCell ?_ ?_ _) | (with_reducible refine chn ?_ (by assumption) ?_) | omega | (simp; done) | (simp; omega))))
      rintro ee w2 ⟨t1, A6, m6, k6, B6, p6, q6, rfl, hb2⟩
      have hz2 := hb2.size
      (try simp only [World.size_alloc] at hz2)
      clear ca0 ca1 cb0 cb1 la lb 
      have Ra := Xa.out
      have Rb := Xb.out
      have Ya : Hid (Bb w2 (w.heap.size) 58 #[.int .i64 a0, .slice A n1 c1]) := by show Bb _ _ _ _; (repeat' (first | (with_reducible assumption) | (refine Bb.new (by first | (with_reducible rfl) | (simp; done))) | (with_reducible refine Bb.alloc ?_ _) | (with_reducible refine Bb.drew ?_) | (with_reducible refine Bb.drewN ?_ _) | (with_reducible refine Bb.mono ?_ (by assumption)) | (with_reducible refine Bb.far ?_ (by (try simp only [World.size_alloc, World.size_drew]); omega)) | (with_reducible refine Bb.set ?_ rfl) | (with_reducible refine Bb.grown ?_ (by assumption) (by assumption))))
      have Yb : Hid (Bb w2 (w.heap.size + 1) 58 #[.int .i64 b0, .slice B m1 d1]) := by show Bb _ _ _ _; (repeat' (first | (with_reducible assumption) | (refine Bb.new (by first | (with_reducible rfl) | (simp; done))) | (with_reducible refine Bb.alloc ?_ _) | (with_reducible refine Bb.drew ?_) | (with_reducible refine Bb.drewN ?_ _) | (with_reducible refine Bb.mono ?_ (by assumption)) | (with_reducible refine Bb.far ?_ (by (try simp only [World.size_alloc, World.size_drew]); omega)) | (with_reducible refine Bb.set ?_ rfl) | (with_reducible refine Bb.grown ?_ (by assumption) (by assumption))))
      clear Ra Xa Rb Xb
      have Xa := Ya
      clear Ya
      have Xb := Yb
      clear Yb
      have hB2 : Below w.heap.size w w2 := by (repeat' (first | (with_reducible exact Below.refl _ _) | (with_reducible assumption) | (with_reducible refine Below.alloc ?_ ?_ _) | (with_reducible refine Below.drew ?_) | (with_reducible refine bdN ?_ _) | (with_reducible refine Below.setCell ?_ ?_ _) | (with_reducible refine chn ?_ (by assumption) ?_) | omega | (simp; done) | (simp; omega)))
      clear hb2
      have ca0 := Xa.out.c 0 rfl
      have ca1 := Xa.out.c 1 rfl
      have cb0 := Xb.out.c 0 rfl
      have cb1 := Xb.out.c 1 rfl
      have la := Xa.out.lt
      have lb := Xb.out.lt
      go_wp2_with (fail)
      refine bodyPost_ret (v := .tuple #[.bool false, .bool false]) (by first | (simp [results, Try.results43, go_sem, *]; done) | (simp (disch := (first | omega | (simp; done) | (simp; omega))) [results, Try.results43, go_sem, *]; done) | (simp only [results, Try.results43]; go_simp; done)) rfl ⟨rfl, ?_⟩
      (repeat' (first | (with_reducible exact Below.refl _ _) | (with_reducible assumption) | (with_reducible refine Below.alloc ?_ ?_ _) | (with_reducible refine Below.drew ?_) | (with_reducible refine bdN ?_ _) | (with_reducible refine Below.setCell ?_ ?_ _) | (with_reducible refine chn ?_ (by assumption) ?_) | omega | (simp; done) | (simp; omega)))

set_option maxRecDepth 100000 in
set_option maxHeartbeats 4000000 in
theorem sc_s_f {a0 b0 : Int} {A B : Option Addr} {n1 m1 c1 d1 : Nat} {xs ys : List GateV} {w : World} {qa qb : Bool} (ha : qa = true ↔ (okC a0 n1 xs = true ∧ noT xs)) (hb : qb = true ↔ (okC b0 m1 ys = true ∧ noT ys)) (hf : qa = true → qb = true → a0 ≠ b0) (hA : Rd gateE w A xs) (hB : Rd gateE w B ys) (hn : xs.length = n1) (hk : ys.length = m1) (hm : n1 ≤ maxLen) (hl : m1 ≤ maxLen) :
    Calls Try.prog 42 #[circuitV a0 A n1 c1, circuitV b0 B m1 d1] w fun ee w' => ee = .returned (.tuple #[.bool false, .bool false]) ∧ Below w.heap.size w w' := by
  have HA := lay hA
  have HB := lay hB
  clear hA hB
  cases qa
  · skip
    have PQ : Hid (¬ (okC a0 n1 xs = true ∧ noT xs)) := fun h => by cases (ha.2 h)
    clear hf ha hb
    go_enter Try.func42, Try.ntmps42
    go_wp2_with (fail)
    refine (l7cl_any (xs := xs) (q := false) ⟨fun h => (by cases h), fun h => absurd h PQ.out⟩ ?_ hn hm).mono ?_
    · exact HA.out.mono (by (repeat' (first | (with_reducible exact Below.refl _ _) | (with_reducible assumption) | (with_reducible refine Below.alloc ?_ ?_ _) | (with_reducible refine Below.drew ?_) | (with_reducible refine bdN ?_ _) | (with_reducible refine Below.setCell ?_ ?_ _) | (with_reducible refine chn ?_ (by assumption) ?_) | omega | (simp; done) | (simp; omega))))
    rintro ee w1 ⟨rfl, hb1⟩
    have hz1 := hb1.size
    (try simp only [World.size_alloc] at hz1)
    have Ya : Hid (Bb w1 (w.heap.size) 58 #[.int .i64 a0, .slice A n1 c1]) := by show Bb _ _ _ _; (repeat' (first | (with_reducible assumption) | (refine Bb.new (by first | (with_reducible rfl) | (simp; done))) | (with_reducible refine Bb.alloc ?_ _) | (with_reducible refine Bb.drew ?_) | (with_reducible refine Bb.drewN ?_ _) | (with_reducible refine Bb.mono ?_ (by assumption)) | (with_reducible refine Bb.far ?_ (by (try simp only [World.size_alloc, World.size_drew]); omega)) | (with_reducible refine Bb.set ?_ rfl) | (with_reducible refine Bb.grown ?_ (by assumption) (by assumption))))
    have Yb : Hid (Bb w1 (w.heap.size + 1) 58 #[.int .i64 b0, .slice B m1 d1]) := by show Bb _ _ _ _; (repeat' (first | (with_reducible assumption) | (refine Bb.new (by first | (with_reducible rfl) | (simp; done))) | (with_reducible refine Bb.alloc ?_ _) | (with_reducible refine Bb.drew ?_) | (with_reducible refine Bb.drewN ?_ _) | (with_reducible refine Bb.mono ?_ (by assumption)) | (with_reducible refine Bb.far ?_ (by (try simp only [World.size_alloc, World.size_drew]); omega)) | (with_reducible refine Bb.set ?_ rfl) | (with_reducible refine Bb.grown ?_ (by assumption) (by assumption))))
    have Xa := Ya
    clear Ya
    have Xb := Yb
    clear Yb
    have hB1 : Below w.heap.size w w1 := by (repeat' (first | (with_reducible exact Below.refl _ _) | (with_reducible assumption) | (with_reducible refine Below.alloc ?_ ?_ _) | (with_reducible refine Below.drew ?_) | (with_reducible refine bdN ?_ _) | (with_reducible refine Below.setCell ?_ ?_ _) | (with_reducible refine chn ?_ (by assumption) ?_) | omega | (simp; done) | (simp; omega)))
    clear hb1
    have ca0 := Xa.out.c 0 rfl
    have ca1 := Xa.out.c 1 rfl
    have cb0 := Xb.out.c 0 rfl
    have cb1 := Xb.out.c 1 rfl
    have la := Xa.out.lt
    have lb := Xb.out.lt
    go_wp2_with (fail)
    refine bodyPost_ret (v := .tuple #[.bool false, .bool false]) (by first | (simp [results, Try.results42, go_sem, *]; done) | (simp (disch := (first | omega | (simp; done) | (simp; omega))) [results, Try.results42, go_sem, *]; done) | (simp only [results, Try.results42]; go_simp; done)) rfl ⟨rfl, ?_⟩
    (repeat' (first | (with_reducible exact Below.refl _ _) | (with_reducible assumption) | (with_reducible refine Below.alloc ?_ ?_ _) | (with_reducible refine Below.drew ?_) | (with_reducible refine bdN ?_ _) | (with_reducible refine Below.setCell ?_ ?_ _) | (with_reducible refine chn ?_ (by assumption) ?_) | omega | (simp; done) | (simp; omega)))
  · cases qb
    · skip
      have PQ : Hid (okC a0 n1 xs = true ∧ noT xs) := ha.1 rfl
      have PR : Hid (¬ (okC b0 m1 ys = true ∧ noT ys)) := fun h => by cases (hb.2 h)
      clear hf ha hb
      go_enter Try.func42, Try.ntmps42
      go_wp2_with (fail)
      refine (l7cl_any (xs := xs) (q := true) ⟨fun _ => PQ.out, fun _ => rfl⟩ ?_ hn hm).mono ?_
      · exact HA.out.mono (by (repeat' (first | (with_reducible exact Below.refl _ _) | (with_reducible assumption) | (with_reducible refine Below.alloc ?_ ?_ _) | (with_reducible refine Below.drew ?_) | (with_reducible refine bdN ?_ _) | (with_reducible refine Below.setCell ?_ ?_ _) | (with_reducible refine chn ?_ (by assumption) ?_) | omega | (simp; done) | (simp; omega))))
      rintro ee w1 ⟨rfl, hb1⟩
      have hz1 := hb1.size
      (try simp only [World.size_alloc] at hz1)
      have Ya : Hid (Bb w1 (w.heap.size) 58 #[.int .i64 a0, .slice A n1 c1]) := by show Bb _ _ _ _; (repeat' (first | (with_reducible assumption) | (refine Bb.new (by first | (with_reducible rfl) | (simp; done))) | (with_reducible refine Bb.alloc ?_ _) | (with_reducible refine Bb.drew ?_) | (with_reducible refine Bb.drewN ?_ _) | (with_reducible refine Bb.mono ?_ (by assumption)) | (with_reducible refine Bb.far ?_ (by (try simp only [World.size_alloc, World.size_drew]); omega)) | (with_reducible refine Bb.set ?_ rfl) | (with_reducible refine Bb.grown ?_ (by assumption) (by assumption))))
      have Yb : Hid (Bb w1 (w.heap.size + 1) 58 #[.int .i64 b0, .slice B m1 d1]) := by show Bb _ _ _ _; (repeat' (first | (with_reducible assumption) | (refine Bb.new (by first | (with_reducible rfl) | (simp; done))) | (with_reducible refine Bb.alloc ?_ _) | (with_reducible refine Bb.drew ?_) | (with_reducible refine Bb.drewN ?_ _) | (with_reducible refine Bb.mono ?_ (by assumption)) | (with_reducible refine Bb.far ?_ (by (try simp only [World.size_alloc, World.size_drew]); omega)) | (with_reducible refine Bb.set ?_ rfl) | (with_reducible refine Bb.grown ?_ (by assumption) (by assumption))))
      have Xa := Ya
      clear Ya
      have Xb := Yb
      clear Yb
      have hB1 : Below w.heap.size w w1 := by (repeat' (first | (with_reducible exact Below.refl _ _) | (with_reducible assumption) | (with_reducible refine Below.alloc ?_ ?_ _) | (with_reducible refine Below.drew ?_) | (with_reducible refine bdN ?_ _) | (with_reducible refine Below.setCell ?_ ?_ _) | (with_reducible refine chn ?_ (by assumption) ?_) | omega | (simp; done) | (simp; omega)))
      clear hb1
      have ca0 := Xa.out.c 0 rfl
      have ca1 := Xa.out.c 1 rfl
      have cb0 := Xb.out.c 0 rfl
      have cb1 := Xb.out.c 1 rfl
      have la := Xa.out.lt
      have lb := Xb.out.lt
      go_wp2_with (fail)
      refine (l7cl_any (xs := ys) (q := false) ⟨fun h => (by cases h), fun h => absurd h PR.out⟩ ?_ hk hl).mono ?_
      · exact HB.out.mono (by (repeat' (first | (with_reducible exact Below.refl _ _) | (with_reducible assumption) | (with_reducible refine Below.alloc ?_ ?_ _) | (with_reducible refine Below.drew ?_) | (with_reducible refine bdN ?_ _) | (with_reducible refine Below.setCell ?_ ?_ _) | (with_reducible refine chn ?_ (by assumption) ?_) | omega | (simp; done) | (simp; omega))))
      rintro ee w2 ⟨rfl, hb2⟩
      have hz2 := hb2.size
      (try simp only [World.size_alloc] at hz2)
      clear ca0 ca1 cb0 cb1 la lb 
      have Ra := Xa.out
      have Rb := Xb.out
      have Ya : Hid (Bb w2 (w.heap.size) 58 #[.int .i64 a0, .slice A n1 c1]) := by show Bb _ _ _ _; (repeat' (first | (with_reducible assumption) | (refine Bb.new (by first | (with_reducible rfl) | (simp; done))) | (with_reducible refine Bb.alloc ?_ _) | (with_reducible refine Bb.drew ?_) | (with_reducible refine Bb.drewN ?_ _) | (with_reducible refine Bb.mono ?_ (by assumption)) | (with_reducible refine Bb.far ?_ (by (try simp only [World.size_alloc, World.size_drew]); omega)) | (with_reducible refine Bb.set ?_ rfl) | (with_reducible refine Bb.grown ?_ (by assumption) (by assumption))))
      have Yb : Hid (Bb w2 (w.heap.size + 1) 58 #[.int .i64 b0, .slice B m1 d1]) := by show Bb _ _ _ _; (repeat' (first | (with_reducible assumption) | (refine Bb.new (by first | (with_reducible rfl) | (simp; done))) | (with_reducible refine Bb.alloc ?_ _) | (with_reducible refine Bb.drew ?_) | (with_reducible refine Bb.drewN ?_ _) | (with_reducible refine Bb.mono ?_ (by assumption)) | (with_reducible refine Bb.far ?_ (by (try simp only [World.size_alloc, World.size_drew]); omega)) | (with_reducible refine Bb.set ?_ rfl) | (with_reducible refine Bb.grown ?_ (by assumption) (by assumption))))
      clear Ra Xa Rb Xb
      have Xa := Ya
      clear Ya
      have Xb := Yb
      clear Yb
      have hB2 : Below w.heap.size w w2 := by (repeat' (first | (with_reducible exact Below.refl _ _) | (with_reducible assumption) | (with_reducible refine Below.alloc ?_ ?_ _) | (with_reducible refine Below.drew ?_) | (with_reducible refine bdN ?_ _) | (with_reducible refine Below.setCell ?_ ?_ _) | (with_reducible refine chn ?_ (by assumption) ?_) | omega | (simp; done) | (simp; omega)))
      clear hb2
      have ca0 := Xa.out.c 0 rfl
      have ca1 := Xa.out.c 1 rfl
      have cb0 := Xb.out.c 0 rfl
      have cb1 := Xb.out.c 1 rfl
      have la := Xa.out.lt
      have lb := Xb.out.lt
      go_wp2_with (fail)
      refine bodyPost_ret (v := .tuple #[.bool false, .bool false]) (by first | (simp [results, Try.results42, go_sem, *]; done) | (simp (disch := (first | omega | (simp; done) | (simp; omega))) [results, Try.results42, go_sem, *]; done) | (simp only [results, Try.results42]; go_simp; done)) rfl ⟨rfl, ?_⟩
      (repeat' (first | (with_reducible exact Below.refl _ _) | (with_reducible assumption) | (with_reducible refine Below.alloc ?_ ?_ _) | (with_reducible refine Below.drew ?_) | (with_reducible refine bdN ?_ _) | (with_reducible refine Below.setCell ?_ ?_ _) | (with_reducible refine chn ?_ (by assumption) ?_) | omega | (simp; done) | (simp; omega)))
    · skip
      have PQ : Hid (okC a0 n1 xs = true ∧ noT xs) := ha.1 rfl
      have PR : Hid (okC b0 m1 ys = true ∧ noT ys) := hb.1 rfl
      have hne : (a0 != b0) = true := by simpa using hf rfl rfl
      clear hf ha hb
      go_enter Try.func42, Try.ntmps42
      go_wp2_with (fail)
      refine (l7cl_any (xs := xs) (q := true) ⟨fun _ => PQ.out, fun _ => rfl⟩ ?_ hn hm).mono ?_
      · exact HA.out.mono (by (repeat' (first | (with_reducible exact Below.refl _ _) | (with_reducible assumption) | (with_reducible refine Below.alloc ?_ ?_ _) | (with_reducible refine Below.drew ?_) | (with_reducible refine bdN ?_ _) | (with_reducible refine Below.setCell ?_ ?_ _) | (with_reducible refine chn ?_ (by assumption) ?_) | omega | (simp; done) | (simp; omega))))
      rintro ee w1 ⟨rfl, hb1⟩
      have hz1 := hb1.size
      (try simp only [World.size_alloc] at hz1)
      have Ya : Hid (Bb w1 (w.heap.size) 58 #[.int .i64 a0, .slice A n1 c1]) := by show Bb _ _ _ _; (repeat' (first | (with_reducible assumption) | (refine Bb.new (by first | (with_reducible rfl) | (simp; done))) | (with_reducible refine Bb.alloc ?_ _) | (with_reducible refine Bb.drew ?_) | (with_reducible refine Bb.drewN ?_ _) | (with_reducible refine Bb.mono ?_ (by assumption)) | (with_reducible refine Bb.far ?_ (by (try simp only [World.size_alloc, World.size_drew]); omega)) | (with_reducible refine Bb.set ?_ rfl) | (with_reducible refine Bb.grown ?_ (by assumption) (by assumption))))
      have Yb : Hid (Bb w1 (w.heap.size + 1) 58 #[.int .i64 b0, .slice B m1 d1]) := by show Bb _ _ _ _; (repeat' (first | (with_reducible assumption) | (refine Bb.new (by first | (with_reducible rfl) | (simp; done))) | (with_reducible refine Bb.alloc ?_ _) | (with_reducible refine Bb.drew ?_) | (with_reducible refine Bb.drewN ?_ _) | (with_reducible refine Bb.mono ?_ (by assumption)) | (with_reducible refine Bb.far ?_ (by (try simp only [World.size_alloc, World.size_drew]); omega)) | (with_reducible refine Bb.set ?_ rfl) | (with_reducible refine Bb.grown ?_ (by assumption) (by assumption))))
      have Xa := Ya
      clear Ya
      have Xb := Yb
      clear Yb
      have hB1 : Below w.heap.size w w1 := by (repeat' (first | (with_reducible exact Below.refl _ _) | (with_reducible assumption) | (with_reducible refine Below.alloc ?_ ?_ _) | (with_reducible refine Below.drew ?_) | (with_reducible refine bdN ?_ _) | (with_reducible refine Below.setCell ?_ ?_ _) | (with_reducible refine chn ?_ (by assumption) ?_) | omega | (simp; done) | (simp; omega)))
      clear hb1
      have ca0 := Xa.out.c 0 rfl
      have ca1 := Xa.out.c 1 rfl
      have cb0 := Xb.out.c 0 rfl
      have cb1 := Xb.out.c 1 rfl
      have la := Xa.out.lt
      have lb := Xb.out.lt
      go_wp2_with (fail)
      refine (l7cl_any (xs := ys) (q := true) ⟨fun _ => PR.out, fun _ => rfl⟩ ?_ hk hl).mono ?_
      · exact HB.out.mono (by (repeat' (first | (with_reducible exact Below.refl _ _) | (with_reducible assumption) | (with_reducible refine Below.alloc ?_ ?_ _) | (with_reducible refine Below.drew ?_) | (with_reducible refine bdN ?_ _) | (with_reducible refine Below.setCell ?_ ?_ _) | (with_reducible refine chn ?_ (by assumption) ?_) | omega | (simp; done) | (simp; omega))))
      rintro ee w2 ⟨rfl, hb2⟩
      have hz2 := hb2.size
      (try simp only [World.size_alloc] at hz2)
      clear ca0 ca1 cb0 cb1 la lb 
      have Ra := Xa.out
      have Rb := Xb.out
      have Ya : Hid (Bb w2 (w.heap.size) 58 #[.int .i64 a0, .slice A n1 c1]) := by show Bb _ _ _ _; (repeat' (first | (with_reducible assumption) | (refine Bb.new (by first | (with_reducible rfl) | (simp; done))) | (with_reducible refine Bb.alloc ?_ _) | (with_reducible refine Bb.drew ?_) | (with_reducible refine Bb.drewN ?_ _) | (with_reducible refine Bb.mono ?_ (by assumption)) | (with_reducible refine Bb.far ?_ (by (try simp only [World.size_alloc, World.size_drew]); omega)) | (with_reducible refine Bb.set ?_ rfl) | (with_reducible refine Bb.grown ?_ (by assumption) (by assumption))))
      have Yb : Hid (Bb w2 (w.heap.size + 1) 58 #[.int .i64 b0, .slice B m1 d1]) := by show Bb _ _ _ _; (repeat' (first | (with_reducible assumption) | (refine Bb.new (by first | (with_reducible rfl) | (simp; done))) | (with_reducible refine Bb.alloc ?_ _) | (with_reducible refine Bb.drew ?_) | (with_reducible refine Bb.drewN ?_ _) | (with_reducible refine Bb.mono ?_ (by assumption)) | (with_reducible refine Bb.far ?_ (by (try simp only [World.size_alloc, World.size_drew]); omega)) | (with_reducible refine Bb.set ?_ rfl) | (with_reducible refine Bb.grown ?_ (by assumption) (by assumption))))
      clear Ra Xa Rb Xb
      have Xa := Ya
      clear Ya
      have Xb := Yb
      clear Yb
      have hB2 : Below w.heap.size w w2 := by (repeat' (first | (with_reducible exact Below.refl _ _) | (with_reducible assumption) | (with_reducible refine Below.alloc ?_ ?_ _) | (with_reducible refine Below.drew ?_) | (with_reducible refine bdN ?_ _) | (with_reducible refine Below.setCell ?_ ?_ _) | (with_reducible refine chn ?_ (by assumption) ?_) | omega | (simp; done) | (simp; omega)))
      clear hb2
      have ca0 := Xa.out.c 0 rfl
      have ca1 := Xa.out.c 1 rfl
      have cb0 := Xb.out.c 0 rfl
      have cb1 := Xb.out.c 1 rfl
      have la := Xa.out.lt
      have lb := Xb.out.lt
      go_wp2_with (fail)
      refine bodyPost_ret (v := .tuple #[.bool false, .bool false]) (by first | (simp [results, Try.results42, go_sem, *]; done) | (simp (disch := (first | omega | (simp; done) | (simp; omega))) [results, Try.results42, go_sem, *]; done) | (simp only [results, Try.results42]; go_simp; done)) rfl ⟨rfl, ?_⟩
      (repeat' (first | (with_reducible exact Below.refl _ _) | (with_reducible assumption) | (with_reducible refine Below.alloc ?_ ?_ _) | (with_reducible refine Below.drew ?_) | (with_reducible refine bdN ?_ _) | (with_reducible refine Below.setCell ?_ ?_ _) | (with_reducible refine chn ?_ (by assumption) ?_) | omega | (simp; done) | (simp; omega)))

set_option maxRecDepth 100000 in
set_option maxHeartbeats 8000000 in
theorem sc_i_t {n n1 m1 c1 d1 : Nat} {A B : Option Addr} {xs ys : List GateV} {t : Bool} {w : World} (q1 : 1 ≤ n) (q5 : n ≤ 5) (h4 : n1 ≤ 400) (h5 : m1 ≤ 400) (hok : okC (n : Int) n1 xs = true) (hT : noT xs) (hg : okG9 n xs) (hok2 : okC (n : Int) m1 ys = true) (hT2 : noT ys) (hg2 : okG9 n ys) (ht : t = true ↔ ((tauT n xs n1).1 = (tauT n ys m1).1 ∧ (tauT n xs n1).2 = (tauT n ys m1).2)) (hA : Rd gateE w A xs) (hB : Rd gateE w B ys) (hn : xs.length = n1) (hk : ys.length = m1) :
    Calls Try.prog 43 #[circuitV (n : Int) A n1 c1, circuitV (n : Int) B m1 d1] w fun ee w' => ee = .returned (.tuple #[.bool t, .bool true]) ∧ Below w.heap.size w w' := by
  have HA := lay hA
  have HB := lay hB
  have HT := lay ht
  obtain ⟨o1, o2⟩ := tauT_ok q1 q5 hg n1 (by omega)
  obtain ⟨o3, o4⟩ := tauT_ok q1 q5 hg2 m1 (by omega)
  have O1 := lay o1.1
  have O2 := lay o2.1
  have O3 := lay o3.1
  have O4 := lay o4.1
  have K1 := lay hok
  have K2 := lay hT
  have K3 := lay hg
  have K4 := lay hok2
  have K5 := lay hT2
  have K6 := lay hg2
  have hm : n1 ≤ maxLen := by unfold maxLen; omega
  have hl : m1 ≤ maxLen := by unfold maxLen; omega
  clear hA hB ht o1 o2 o3 o4 hok hT hg hok2 hT2 hg2
  go_enter Try.func43, Try.ntmps43
  go_wp2_with (fail)
  refine (ti_t (gs := xs) q1 q5 h4 K1.out K2.out K3.out ?_ hn).mono ?_
  · exact HA.out.mono (by (repeat' (first | (with_reducible exact Below.refl _ _) | (with_reducible assumption) | (with_reducible refine Below.alloc ?_ ?_ _) | (with_reducible refine Below.drew ?_) | (with_reducible refine bdN ?_ _) | (with_reducible refine Below.setCell ?_ ?_ _) | (with_reducible refine chn ?_ (by assumption) ?_) | omega | (simp; done) | (simp; omega))))
  rintro ee w1 ⟨A1, k1, A2, k2, rfl, hO1, hO2, -, hb1⟩
  have hz1 := hb1.size
  (try simp only [World.size_alloc] at hz1)
  have Ya : Hid (Bb w1 (w.heap.size) 58 #[.int .i64 (n : Int), .slice A n1 c1]) := by show Bb _ _ _ _; (repeat' (first | (with_reducible assumption) | (refine Bb.new (by first | (with_reducible rfl) | (simp; done))) | (with_reducible refine Bb.alloc ?_ _) | (with_reducible refine Bb.drew ?_) | (with_reducible refine Bb.drewN ?_ _) | (with_reducible refine Bb.mono ?_ (by assumption)) | (with_reducible refine Bb.far ?_ (by (try simp only [World.size_alloc, World.size_drew]); omega)) | (with_reducible refine Bb.set ?_ rfl) | (with_reducible refine Bb.grown ?_ (by assumption) (by assumption))))
  have Yb : Hid (Bb w1 (w.heap.size + 1) 58 #[.int .i64 (n : Int), .slice B m1 d1]) := by show Bb _ _ _ _; (repeat' (first | (with_reducible assumption) | (refine Bb.new (by first | (with_reducible rfl) | (simp; done))) | (with_reducible refine Bb.alloc ?_ _) | (with_reducible refine Bb.drew ?_) | (with_reducible refine Bb.drewN ?_ _) | (with_reducible refine Bb.mono ?_ (by assumption)) | (with_reducible refine Bb.far ?_ (by (try simp only [World.size_alloc, World.size_drew]); omega)) | (with_reducible refine Bb.set ?_ rfl) | (with_reducible refine Bb.grown ?_ (by assumption) (by assumption))))
  have Xa := Ya
  clear Ya
  have Xb := Yb
  clear Yb
  have hB1 : Below w.heap.size w w1 := by (repeat' (first | (with_reducible exact Below.refl _ _) | (with_reducible assumption) | (with_reducible refine Below.alloc ?_ ?_ _) | (with_reducible refine Below.drew ?_) | (with_reducible refine bdN ?_ _) | (with_reducible refine Below.setCell ?_ ?_ _) | (with_reducible refine chn ?_ (by assumption) ?_) | omega | (simp; done) | (simp; omega)))
  have R1 := lay hO1.rd
  have R2 := lay hO2.rd
  clear hb1 hO1 hO2
  have ca0 := Xa.out.c 0 rfl
  have ca1 := Xa.out.c 1 rfl
  have cb0 := Xb.out.c 0 rfl
  have cb1 := Xb.out.c 1 rfl
  have la := Xa.out.lt
  have lb := Xb.out.lt
  go_wp2_with (fail)
  refine (ti_t (gs := ys) q1 q5 h5 K4.out K5.out K6.out ?_ hk).mono ?_
  · exact HB.out.mono (by (repeat' (first | (with_reducible exact Below.refl _ _) | (with_reducible assumption) | (with_reducible refine Below.alloc ?_ ?_ _) | (with_reducible refine Below.drew ?_) | (with_reducible refine bdN ?_ _) | (with_reducible refine Below.setCell ?_ ?_ _) | (with_reducible refine chn ?_ (by assumption) ?_) | omega | (simp; done) | (simp; omega))))
  rintro ee w2 ⟨A3, k3, A4, k4, rfl, hO3, hO4, -, hb2⟩
  have hz2 := hb2.size
  (try simp only [World.size_alloc] at hz2)
  clear ca0 ca1 cb0 cb1 la lb 
  have Ra := Xa.out
  have Rb := Xb.out
  have Ya : Hid (Bb w2 (w.heap.size) 58 #[.int .i64 (n : Int), .slice A n1 c1]) := by show Bb _ _ _ _; (repeat' (first | (with_reducible assumption) | (refine Bb.new (by first | (with_reducible rfl) | (simp; done))) | (with_reducible refine Bb.alloc ?_ _) | (with_reducible refine Bb.drew ?_) | (with_reducible refine Bb.drewN ?_ _) | (with_reducible refine Bb.mono ?_ (by assumption)) | (with_reducible refine Bb.far ?_ (by (try simp only [World.size_alloc, World.size_drew]); omega)) | (with_reducible refine Bb.set ?_ rfl) | (with_reducible refine Bb.grown ?_ (by assumption) (by assumption))))
  have Yb : Hid (Bb w2 (w.heap.size + 1) 58 #[.int .i64 (n : Int), .slice B m1 d1]) := by show Bb _ _ _ _; (repeat' (first | (with_reducible assumption) | (refine Bb.new (by first | (with_reducible rfl) | (simp; done))) | (with_reducible refine Bb.alloc ?_ _) | (with_reducible refine Bb.drew ?_) | (with_reducible refine Bb.drewN ?_ _) | (with_reducible refine Bb.mono ?_ (by assumption)) | (with_reducible refine Bb.far ?_ (by (try simp only [World.size_alloc, World.size_drew]); omega)) | (with_reducible refine Bb.set ?_ rfl) | (with_reducible refine Bb.grown ?_ (by assumption) (by assumption))))
  have Yf : Hid (Bb w2 (w1.heap.size) 53 #[.int .i64 (n : Int), .slice A1 n k1, .slice A2 n k2]) := by show Bb _ _ _ _; (repeat' (first | (with_reducible assumption) | (refine Bb.new (by first | (with_reducible rfl) | (simp; done))) | (with_reducible refine Bb.alloc ?_ _) | (with_reducible refine Bb.drew ?_) | (with_reducible refine Bb.drewN ?_ _) | (with_reducible refine Bb.mono ?_ (by assumption)) | (with_reducible refine Bb.far ?_ (by (try simp only [World.size_alloc, World.size_drew]); omega)) | (with_reducible refine Bb.set ?_ rfl) | (with_reducible refine Bb.grown ?_ (by assumption) (by assumption))))
  clear Ra Xa Rb Xb
  have Xa := Ya
  clear Ya
  have Xb := Yb
  clear Yb
  have Xf := Yf
  clear Yf
  have hB2 : Below w.heap.size w w2 := by (repeat' (first | (with_reducible exact Below.refl _ _) | (with_reducible assumption) | (with_reducible refine Below.alloc ?_ ?_ _) | (with_reducible refine Below.drew ?_) | (with_reducible refine bdN ?_ _) | (with_reducible refine Below.setCell ?_ ?_ _) | (with_reducible refine chn ?_ (by assumption) ?_) | omega | (simp; done) | (simp; omega)))
  have hL2 : Below w1.heap.size w1 w2 := chn ((Below.refl w1.heap.size w1).alloc (Nat.le_refl _) _) hb2 (by simp only [World.size_alloc]; omega)
  have S1 := lay (R1.out.mono hL2)
  have S2 := lay (R2.out.mono hL2)
  have S3 := lay hO3.rd
  have S4 := lay hO4.rd
  clear hb2 hL2 hO3 hO4 R1 R2
  have ca0 := Xa.out.c 0 rfl
  have ca1 := Xa.out.c 1 rfl
  have cb0 := Xb.out.c 0 rfl
  have cb1 := Xb.out.c 1 rfl
  have cf0 := Xf.out.c 0 rfl
  have cf1 := Xf.out.c 1 rfl
  have cf2 := Xf.out.c 2 rfl
  have la := Xa.out.lt
  have lb := Xb.out.lt
  have lf := Xf.out.lt
  go_wp2_with (fail)
  refine (eqT_i (t := t) (xs := (tauT n xs n1).1) (zs := (tauT n xs n1).2) (us := (tauT n ys m1).1) (vs := (tauT n ys m1).2) q5 HT.out ?_ ?_ ?_ ?_ O1.out O2.out O3.out O4.out).mono ?_
  · exact S1.out.mono (by (repeat' (first | (with_reducible exact Below.refl _ _) | (with_reducible assumption) | (with_reducible refine Below.alloc ?_ ?_ _) | (with_reducible refine Below.drew ?_) | (with_reducible refine bdN ?_ _) | (with_reducible refine Below.setCell ?_ ?_ _) | (with_reducible refine chn ?_ (by assumption) ?_) | omega | (simp; done) | (simp; omega))))
  · exact S2.out.mono (by (repeat' (first | (with_reducible exact Below.refl _ _) | (with_reducible assumption) | (with_reducible refine Below.alloc ?_ ?_ _) | (with_reducible refine Below.drew ?_) | (with_reducible refine bdN ?_ _) | (with_reducible refine Below.setCell ?_ ?_ _) | (with_reducible refine chn ?_ (by assumption) ?_) | omega | (simp; done) | (simp; omega))))
  · exact S3.out.mono (by (repeat' (first | (with_reducible exact Below.refl _ _) | (with_reducible assumption) | (with_reducible refine Below.alloc ?_ ?_ _) | (with_reducible refine Below.drew ?_) | (with_reducible refine bdN ?_ _) | (with_reducible refine Below.setCell ?_ ?_ _) | (with_reducible refine chn ?_ (by assumption) ?_) | omega | (simp; done) | (simp; omega))))
  · exact S4.out.mono (by (repeat' (first | (with_reducible exact Below.refl _ _) | (with_reducible assumption) | (with_reducible refine Below.alloc ?_ ?_ _) | (with_reducible refine Below.drew ?_) | (with_reducible refine bdN ?_ _) | (with_reducible refine Below.setCell ?_ ?_ _) | (with_reducible refine chn ?_ (by assumption) ?_) | omega | (simp; done) | (simp; omega))))
  rintro ee w3 ⟨rfl, hb3⟩
  go_wp2_with (fail)
  refine bodyPost_ret (v := .tuple #[.bool t, .bool true]) (by first | (simp [results, Try.results43, go_sem, *]; done) | (simp (disch := (first | omega | (simp; done) | (simp; omega))) [results, Try.results43, go_sem, *]; done) | (simp only [results, Try.results43]; go_simp; done)) rfl ⟨rfl, ?_⟩
  (repeat' (first | (with_reducible exact Below.refl _ _) | (with_reducible assumption) | (with_reducible refine Below.alloc ?_ ?_ _) | (with_reducible refine Below.drew ?_) | (with_reducible refine bdN ?_ _) | (with_reducible refine Below.setCell ?_ ?_ _) | (with_reducible refine chn ?_ (by assumption) ?_) | omega | (simp; done) | (simp; omega)))

set_option maxRecDepth 100000 in
set_option maxHeartbeats 8000000 in
theorem sc_s_t {n n1 m1 c1 d1 : Nat} {A B : Option Addr} {xs ys : List GateV} {t : Bool} {w : World} (q1 : 1 ≤ n) (q5 : n ≤ 5) (h4 : n1 ≤ 400) (h5 : m1 ≤ 400) (hok : okC (n : Int) n1 xs = true) (hT : noT xs) (hg : okG9 n xs) (hok2 : okC (n : Int) m1 ys = true) (hT2 : noT ys) (hg2 : okG9 n ys) (ht : t = true ↔ ((tauT n xs n1).1 = (tauT n ys m1).1 ∧ (tauT n xs n1).2 = (tauT n ys m1).2)) (hA : Rd gateE w A xs) (hB : Rd gateE w B ys) (hn : xs.length = n1) (hk : ys.length = m1) :
    Calls Try.prog 42 #[circuitV (n : Int) A n1 c1, circuitV (n : Int) B m1 d1] w fun ee w' => ee = .returned (.tuple #[.bool t, .bool true]) ∧ Below w.heap.size w w' := by
  have HA := lay hA
  have HB := lay hB
  have HT := lay ht
  obtain ⟨o1, o2⟩ := tauT_ok q1 q5 hg n1 (by omega)
  obtain ⟨o3, o4⟩ := tauT_ok q1 q5 hg2 m1 (by omega)
  have O1 := lay o1.1
  have O2 := lay o2.1
  have O3 := lay o3.1
  have O4 := lay o4.1
  have K1 := lay hok
  have K2 := lay hT
  have K3 := lay hg
  have K4 := lay hok2
  have K5 := lay hT2
  have K6 := lay hg2
  have hm : n1 ≤ maxLen := by unfold maxLen; omega
  have hl : m1 ≤ maxLen := by unfold maxLen; omega
  clear hA hB ht o1 o2 o3 o4 hok hT hg hok2 hT2 hg2
  go_enter Try.func42, Try.ntmps42
  go_wp2_with (fail)
  refine (l7cl_t (xs := xs) K1.out K2.out ?_ hn hm).mono ?_
  · exact HA.out.mono (by (repeat' (first | (with_reducible exact Below.refl _ _) | (with_reducible assumption) | (with_reducible refine Below.alloc ?_ ?_ _) | (with_reducible refine Below.drew ?_) | (with_reducible refine bdN ?_ _) | (with_reducible refine Below.setCell ?_ ?_ _) | (with_reducible refine chn ?_ (by assumption) ?_) | omega | (simp; done) | (simp; omega))))
  rintro ee w1 ⟨rfl, hb1⟩
  have hz1 := hb1.size
  (try simp only [World.size_alloc] at hz1)
  have Ya : Hid (Bb w1 (w.heap.size) 58 #[.int .i64 (n : Int), .slice A n1 c1]) := by show Bb _ _ _ _; (repeat' (first | (with_reducible assumption) | (refine Bb.new (by first | (with_reducible rfl) | (simp; done))) | (with_reducible refine Bb.alloc ?_ _) | (with_reducible refine Bb.drew ?_) | (with_reducible refine Bb.drewN ?_ _) | (with_reducible refine Bb.mono ?_ (by assumption)) | (with_reducible refine Bb.far ?_ (by (try simp only [World.size_alloc, World.size_drew]); omega)) | (with_reducible refine Bb.set ?_ rfl) | (with_reducible refine Bb.grown ?_ (by assumption) (by assumption))))
  have Yb : Hid (Bb w1 (w.heap.size + 1) 58 #[.int .i64 (n : Int), .slice B m1 d1]) := by show Bb _ _ _ _; (repeat' (first | (with_reducible assumption) | (refine Bb.new (by first | (with_reducible rfl) | (simp; done))) | (with_reducible refine Bb.alloc ?_ _) | (with_reducible refine Bb.drew ?_) | (with_reducible refine Bb.drewN ?_ _) | (with_reducible refine Bb.mono ?_ (by assumption)) | (with_reducible refine Bb.far ?_ (by (try simp only [World.size_alloc, World.size_drew]); omega)) | (with_reducible refine Bb.set ?_ rfl) | (with_reducible refine Bb.grown ?_ (by assumption) (by assumption))))
  have Xa := Ya
  clear Ya
  have Xb := Yb
  clear Yb
  have hB1 : Below w.heap.size w w1 := by (repeat' (first | (with_reducible exact Below.refl _ _) | (with_reducible assumption) | (with_reducible refine Below.alloc ?_ ?_ _) | (with_reducible refine Below.drew ?_) | (with_reducible refine bdN ?_ _) | (with_reducible refine Below.setCell ?_ ?_ _) | (with_reducible refine chn ?_ (by assumption) ?_) | omega | (simp; done) | (simp; omega)))
  clear hb1
  have ca0 := Xa.out.c 0 rfl
  have ca1 := Xa.out.c 1 rfl
  have cb0 := Xb.out.c 0 rfl
  have cb1 := Xb.out.c 1 rfl
  have la := Xa.out.lt
  have lb := Xb.out.lt
  go_wp2_with (fail)
  refine (l7cl_t (xs := ys) K4.out K5.out ?_ hk hl).mono ?_
  · exact HB.out.mono (by (repeat' (first | (with_reducible exact Below.refl _ _) | (with_reducible assumption) | (with_reducible refine Below.alloc ?_ ?_ _) | (with_reducible refine Below.drew ?_) | (with_reducible refine bdN ?_ _) | (with_reducible refine Below.setCell ?_ ?_ _) | (with_reducible refine chn ?_ (by assumption) ?_) | omega | (simp; done) | (simp; omega))))
  rintro ee w2 ⟨rfl, hb2⟩
  have hz2 := hb2.size
  (try simp only [World.size_alloc] at hz2)
  clear ca0 ca1 cb0 cb1 la lb 
  have Ra := Xa.out
  have Rb := Xb.out
  have Ya : Hid (Bb w2 (w.heap.size) 58 #[.int .i64 (n : Int), .slice A n1 c1]) := by show Bb _ _ _ _; (repeat' (first | (with_reducible assumption) | (refine Bb.new (by first | (with_reducible rfl) | (simp; done))) | (with_reducible refine Bb.alloc ?_ _) | (with_reducible refine Bb.drew ?_) | (with_reducible refine Bb.drewN ?_ _) | (with_reducible refine Bb.mono ?_ (by assumption)) | (with_reducible refine Bb.far ?_ (by (try simp only [World.size_alloc, World.size_drew]); omega)) | (with_reducible refine Bb.set ?_ rfl) | (with_reducible refine Bb.grown ?_ (by assumption) (by assumption))))
  have Yb : Hid (Bb w2 (w.heap.size + 1) 58 #[.int .i64 (n : Int), .slice B m1 d1]) := by show Bb _ _ _ _; (repeat' (first | (with_reducible assumption) | (refine Bb.new (by first | (with_reducible rfl) | (simp; done))) | (with_reducible refine Bb.alloc ?_ _) | (with_reducible refine Bb.drew ?_) | (with_reducible refine Bb.drewN ?_ _) | (with_reducible refine Bb.mono ?_ (by assumption)) | (with_reducible refine Bb.far ?_ (by (try simp only [World.size_alloc, World.size_drew]); omega)) | (with_reducible refine Bb.set ?_ rfl) | (with_reducible refine Bb.grown ?_ (by assumption) (by assumption))))
  clear Ra Xa Rb Xb
  have Xa := Ya
  clear Ya
  have Xb := Yb
  clear Yb
  have hB2 : Below w.heap.size w w2 := by (repeat' (first | (with_reducible exact Below.refl _ _) | (with_reducible assumption) | (with_reducible refine Below.alloc ?_ ?_ _) | (with_reducible refine Below.drew ?_) | (with_reducible refine bdN ?_ _) | (with_reducible refine Below.setCell ?_ ?_ _) | (with_reducible refine chn ?_ (by assumption) ?_) | omega | (simp; done) | (simp; omega)))
  clear hb2
  have ca0 := Xa.out.c 0 rfl
  have ca1 := Xa.out.c 1 rfl
  have cb0 := Xb.out.c 0 rfl
  have cb1 := Xb.out.c 1 rfl
  have la := Xa.out.lt
  have lb := Xb.out.lt
  go_upto_region 3 with (fail)
  have yca0 : w2.drew.cell? ⟨w.heap.size, 0, none⟩ = some (.int .i64 (n : Int)) := ca0
  have yca1 : w2.drew.cell? ⟨w.heap.size, 1, none⟩ = some (.slice A n1 c1) := ca1
  have ycb0 : w2.drew.cell? ⟨w.heap.size + 1, 0, none⟩ = some (.int .i64 (n : Int)) := cb0
  have ycb1 : w2.drew.cell? ⟨w.heap.size + 1, 1, none⟩ = some (.slice B m1 d1) := cb1
  refine wp_region_x (fun w' => w'.cell? ⟨w.heap.size, 0, none⟩ = some (.int .i64 (n : Int)) ∧ w'.cell? ⟨w.heap.size, 1, none⟩ = some (.slice A n1 c1) ∧ w'.cell? ⟨w.heap.size + 1, 0, none⟩ = some (.int .i64 (n : Int)) ∧ w'.cell? ⟨w.heap.size + 1, 1, none⟩ = some (.slice B m1 d1)) 1000 (by kernel_rfl) ⟨yca0, yca1, ycb0, ycb1⟩ (fun hS0 => ?_)
  refine wpAnyX_take (i := 0) (oi := _) (v := ?_) rfl (by kernel_rfl) (by kernel_rfl) (by kernel_rfl) (by kernel_rfl) (fun _ _ _ h => h) (Or.inl ⟨by rfl, ?_⟩) hS0 ?_
  rotate_left 1
  · (intro w hSw; (try dsimp only at hSw); go_simp; (try with_reducible rfl))
  try simp only [Act.put, List.setIfInBounds_toArray, List.set_cons_zero, List.set_cons_succ]
  refine wpAnyX_take (i := 2) (oi := _) (v := ?_) rfl (by kernel_rfl) (by kernel_rfl) (by kernel_rfl) (by kernel_rfl) (fun _ _ _ h => h) (Or.inl ⟨by rfl, ?_⟩) hS0 ?_
  rotate_left 1
  · (intro w hSw; (try dsimp only at hSw); go_simp; (try with_reducible rfl))
  try simp only [Act.put, List.setIfInBounds_toArray, List.set_cons_zero, List.set_cons_succ]
  refine wpAnyX_one (i := 1) (o := _) rfl (by kernel_rfl) (fun K hK => ?_)
  go_simp
  refine (l7of (gs := xs) q1 q5 h4 K3.out ?_ hn).mono ?_
  · exact (show Rd gateE w2 A xs from HA.out.mono hB2)
  rintro ee w7 ⟨g1, e1, g2, e2, rfl, hK1, hK2, l1, l2, hb7⟩
  have k7 : Below w2.heap.size w2 w7 := ⟨hb7.os, hb7.tape, hb7.output, hb7.size, hb7.block⟩
  have hB7 : Below w.heap.size w w7 := chn hB2 k7 hB2.size
  have P1 := lay hK1
  have P2 := lay hK2
  clear hK1 hK2
  refine hK.out _ _ (fun _ => ?_) (fun hS1 => ?_)
  · exact ⟨kcl hb7 (hS0.1), kcl hb7 (hS0.2.1), kcl hb7 (hS0.2.2.1), kcl hb7 (hS0.2.2.2)⟩
  clear hK K
  have hS1 := hS1 (by decide)
  try simp only [Act.put, List.setIfInBounds_toArray, List.set_cons_zero, List.set_cons_succ]
  refine wpAnyX_one (i := 3) (o := _) rfl (by kernel_rfl) (fun K hK => ?_)
  go_simp
  refine (l7of (gs := ys) q1 q5 h5 K6.out ?_ hk).mono ?_
  · exact HB.out.mono hB7
  rintro ee w8 ⟨g3, e3, g4, e4, rfl, hK1, hK2, l3, l4, hb8⟩
  have hB8 : Below w.heap.size w w8 := chn hB7 hb8 hB7.size
  have P3 := lay hK1
  have P4 := lay hK2
  clear hK1 hK2
  refine hK.out _ _ (fun _ => ?_) (fun hS2 => ?_)
  · exact ⟨kcl hb8 (hS1.1), kcl hb8 (hS1.2.1), kcl hb8 (hS1.2.2.1), kcl hb8 (hS1.2.2.2)⟩
  clear hK K
  have hS2 := hS2 (by decide)
  try simp only [Act.put, List.setIfInBounds_toArray, List.set_cons_zero, List.set_cons_succ]
  refine wpAnyX_one (i := 4) (o := _) rfl (by kernel_rfl) (fun K hK => ?_)
  go_simp
  refine (l8same (t := t) (xs := (tauT n xs n1).1) (zs := (tauT n xs n1).2) (us := (tauT n ys m1).1) (vs := (tauT n ys m1).2) q5 HT.out ?_ ?_ ?_ ?_ O1.out O2.out O3.out O4.out).mono ?_
  · exact (P1.out.mono hb8).rd
  · exact (P2.out.mono hb8).rd
  · exact P3.out.rd
  · exact P4.out.rd
  rintro ee w9 ⟨rfl, hb9⟩
  have hB9 : Below w.heap.size w w9 := chn hB8 hb9 hB8.size
  refine hK.out _ _ (fun _ => ?_) (fun hS3 => ?_)
  · exact ⟨kcl hb9 (hS2.1), kcl hb9 (hS2.2.1), kcl hb9 (hS2.2.2.1), kcl hb9 (hS2.2.2.2)⟩
  clear hK K
  have hS3 := hS3 (by decide)
  try simp only [Act.put, List.setIfInBounds_toArray, List.set_cons_zero, List.set_cons_succ]
  refine wpAnyX_take (i := 5) (oi := _) (v := ?_) rfl (by kernel_rfl) (by kernel_rfl) (by kernel_rfl) (by kernel_rfl) (fun _ _ _ h => h) (Or.inl ⟨by rfl, ?_⟩) hS3 ?_
  rotate_left 1
  · (intro w hSw; (try dsimp only at hSw); go_simp; (try with_reducible rfl))
  change wpAnyX _ _ _ _ _ _ _ _ (Act.put _ (some 4) _) _
  try simp only [Act.put, List.setIfInBounds_toArray, List.set_cons_zero, List.set_cons_succ]
  refine wpAnyX_take (i := 6) (oi := _) (v := ?_) rfl (by kernel_rfl) (by kernel_rfl) (by kernel_rfl) (by kernel_rfl) (fun _ _ _ h => h) (Or.inl ⟨by rfl, ?_⟩) hS3 ?_
  rotate_left 1
  · (intro w hSw; (try dsimp only at hSw); go_simp; (try with_reducible rfl))
  change wpAnyX _ _ _ _ _ _ _ _ (Act.put _ (some 5) _) _
  try simp only [Act.put, List.setIfInBounds_toArray, List.set_cons_zero, List.set_cons_succ]
  refine wpAnyX_done (by kernel_rfl) ?_ _
  go_wp2_with (fail)
  refine bodyPost_ret (v := .tuple #[.bool t, .bool true]) (by first | (simp [results, Try.results42, go_sem, *]; done) | (simp (disch := (first | omega | (simp; done) | (simp; omega))) [results, Try.results42, go_sem, *]; done) | (simp only [results, Try.results42]; go_simp; done)) rfl ⟨rfl, ?_⟩
  (repeat' (first | (with_reducible exact Below.refl _ _) | (with_reducible assumption) | (with_reducible refine Below.alloc ?_ ?_ _) | (with_reducible refine Below.drew ?_) | (with_reducible refine bdN ?_ _) | (with_reducible refine Below.setCell ?_ ?_ _) | (with_reducible refine chn ?_ (by assumption) ?_) | omega | (simp; done) | (simp; omega)))

end Go.Proofs.Ytjedpeoafpljhaa.C4
