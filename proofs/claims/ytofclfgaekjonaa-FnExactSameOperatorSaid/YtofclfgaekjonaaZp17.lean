/- Lg -/
import Derived.Test.YtofclfgaekjonaaZp16
namespace Go.Proofs.Ytofclfgaekjonaa
open Go.RowKit RM
set_option linter.unusedVariables false
set_option linter.unusedSimpArgs false
attribute [local irreducible] World.setCell

open GM
theorem bitS_01 {n c q : Nat} : bitS n c q = 0 ∨ bitS n c q = 1 := by unfold bitS; omega
theorem ne32 {a b : Nat} (h : ¬ a = b) : ((a : Int) == (b : Int)) = false ∧ ¬ ((a : Int) = (b : Int)) ∧ ((a : Int) != (b : Int)) = true := by
  refine ⟨?_, ?_, ?_⟩
  · simp; omega
  · intro h2; omega
  · simp; omega

set_option maxRecDepth 100000 in
set_option maxHeartbeats 4000000 in
theorem lc12_1 {n A B r c : Nat} {w : World} (h5 : n ≤ 5) (hr : r < 2 ^ n) (hc : c < 2 ^ n) (h : r = c) :
    Calls Try.prog 194 #[.int .i64 (n : Int), .agg #[.int .i64 12, .int .i64 (A : Int), .int .i64 (B : Int)], .int .i64 (r : Int), .int .i64 (c : Int)] w fun ee w' => ee = .returned (omP 1).v ∧ Below w.heap.size w w' := by
  subst h
  clear hr hc
  go_enter Try.func194, Try.ntmps194
  go_wp2_with (fail)
  refine lpw0.mono ?_
  rintro ee w1 ⟨rfl, hb1⟩
  have Xg : Bx w1 (w.heap.size) 150 #[.int .i64 12, .int .i64 (A : Int), .int .i64 (B : Int)] := by (repeat' (first | (with_reducible assumption) | (refine Bx.new (by first | (with_reducible rfl) | (simp; done))) | (with_reducible refine Bx.alloc ?_ _) | (with_reducible refine Bx.drew ?_) | (with_reducible refine Bx.drewN ?_ _) | (with_reducible refine Bx.mono ?_ (by assumption)) | (with_reducible refine Bx.badly ?_ (by assumption) (by omega)) | (with_reducible refine Bx.far ?_ (by (try simp only [World.size_alloc, World.size_drew]); omega)) | (with_reducible refine Bx.set ?_ rfl) | (with_reducible refine Bx.grown ?_ (by assumption) (by assumption))))
  have Xz : Bx w1 (w.heap.size + 1) 99 #[.int .i64 0, .int .i64 0, .int .i64 0, .int .i64 0, .int .i64 0] := by (repeat' (first | (with_reducible assumption) | (refine Bx.new (by first | (with_reducible rfl) | (simp; done))) | (with_reducible refine Bx.alloc ?_ _) | (with_reducible refine Bx.drew ?_) | (with_reducible refine Bx.drewN ?_ _) | (with_reducible refine Bx.mono ?_ (by assumption)) | (with_reducible refine Bx.badly ?_ (by assumption) (by omega)) | (with_reducible refine Bx.far ?_ (by (try simp only [World.size_alloc, World.size_drew]); omega)) | (with_reducible refine Bx.set ?_ rfl) | (with_reducible refine Bx.grown ?_ (by assumption) (by assumption))))
  have hz1 := hb1.size
  (try simp only [World.size_alloc] at hz1)
  have hw1 : Below w.heap.size w w1 := by (repeat' (first | (with_reducible exact Below.refl _ _) | (with_reducible assumption) | (with_reducible refine Below.alloc ?_ ?_ _) | (with_reducible refine Below.drew ?_) | (with_reducible refine below_drewN ?_ _) | (with_reducible refine Below.setCell ?_ ?_ _) | (with_reducible refine chain ?_ (by assumption) ?_) | omega | (simp; done) | (simp; omega)))
  clear hb1
  have g0 := Xg.c 0 rfl
  have g1 := Xg.c 1 rfl
  have g2 := Xg.c 2 rfl
  have lg := Xg.lt
  have z0 := Xz.c 0 rfl
  have z1 := Xz.c 1 rfl
  have z2 := Xz.c 2 rfl
  have z3 := Xz.c 3 rfl
  have z4 := Xz.c 4 rfl
  have lz := Xz.lt
  have fz := Xz.f
  go_wp2_with (fail)
  refine lpw1.mono ?_
  rintro ee w2 ⟨rfl, hb2⟩
  have Yg := Bx.mono ((Xg.alloc _).alloc _) hb2
  have Yz := Bx.mono ((Xz.alloc _).alloc _) hb2
  have Xo : Bx w2 w1.heap.size 99 #[.int .i64 (omP 0).a, .int .i64 (omP 0).b, .int .i64 (omP 0).c, .int .i64 (omP 0).d, .int .i64 (omP 0).e] := Bx.mono ((Bx.new rfl).alloc _) hb2
  have Xe : Bx w2 (w1.heap.size + 1) 99 #[.int .i64 0, .int .i64 0, .int .i64 0, .int .i64 0, .int .i64 0] := Bx.mono (Bx.new (by simp)) hb2
  have hz2 := hb2.size
  (try simp only [World.size_alloc] at hz2)
  have hw2 : Below w.heap.size w w2 := by (repeat' (first | (with_reducible exact Below.refl _ _) | (with_reducible assumption) | (with_reducible refine Below.alloc ?_ ?_ _) | (with_reducible refine Below.drew ?_) | (with_reducible refine below_drewN ?_ _) | (with_reducible refine Below.setCell ?_ ?_ _) | (with_reducible refine chain ?_ (by assumption) ?_) | omega | (simp; done) | (simp; omega)))
  clear hb2 g0 g1 g2 lg Xg z0 z1 z2 z3 z4 lz Xz fz
  obtain ⟨Xg, Xz⟩ : _ ∧ _ := ⟨Yg, Yz⟩
  clear Yg Yz
  have g0 := Xg.c 0 rfl
  have g1 := Xg.c 1 rfl
  have g2 := Xg.c 2 rfl
  have lg := Xg.lt
  have z0 := Xz.c 0 rfl
  have z1 := Xz.c 1 rfl
  have z2 := Xz.c 2 rfl
  have z3 := Xz.c 3 rfl
  have z4 := Xz.c 4 rfl
  have lz := Xz.lt
  have fz := Xz.f
  have o0 := Xo.c 0 rfl
  have o1 := Xo.c 1 rfl
  have o2 := Xo.c 2 rfl
  have o3 := Xo.c 3 rfl
  have o4 := Xo.c 4 rfl
  have lo := Xo.lt
  have fo := Xo.f
  have e0 := Xe.c 0 rfl
  have e1 := Xe.c 1 rfl
  have e2 := Xe.c 2 rfl
  have e3 := Xe.c 3 rfl
  have e4 := Xe.c 4 rfl
  have le := Xe.lt
  have ne1 : w1.heap.size ≠ w.heap.size + 1 := by omega
  have ne2 : w1.heap.size + 1 ≠ w1.heap.size := by omega
  go_wp2_with (fail)
  refine bodyPost_ret (v := dy (omP 1).a (omP 1).b (omP 1).c (omP 1).d (omP 1).e) (by first | (simp [results, Try.results194, go_sem, *]; done) | (simp (disch := (first | omega | (simp; done) | (simp; omega))) [results, Try.results194, go_sem, *]; done) | (simp only [results, Try.results194]; go_simp; done)) rfl ⟨rfl, ?_⟩
  (repeat' (first | (with_reducible exact Below.refl _ _) | (with_reducible assumption) | (with_reducible refine Below.alloc ?_ ?_ _) | (with_reducible refine Below.drew ?_) | (with_reducible refine below_drewN ?_ _) | (with_reducible refine Below.setCell ?_ ?_ _) | (with_reducible refine chain ?_ (by assumption) ?_) | omega | (simp; done) | (simp; omega)))

set_option maxRecDepth 100000 in
set_option maxHeartbeats 4000000 in
theorem lc12_0 {n A B r c : Nat} {w : World} (h5 : n ≤ 5) (hr : r < 2 ^ n) (hc : c < 2 ^ n) (h : ¬ r = c) :
    Calls Try.prog 194 #[.int .i64 (n : Int), .agg #[.int .i64 12, .int .i64 (A : Int), .int .i64 (B : Int)], .int .i64 (r : Int), .int .i64 (c : Int)] w fun ee w' => ee = .returned (z5).v ∧ Below w.heap.size w w' := by
  obtain ⟨k1, k2, k3⟩ := ne32 h
  clear h
  clear hr hc
  go_enter Try.func194, Try.ntmps194
  go_wp2_with (fail)
  refine lpw0.mono ?_
  rintro ee w1 ⟨rfl, hb1⟩
  have Xg : Bx w1 (w.heap.size) 150 #[.int .i64 12, .int .i64 (A : Int), .int .i64 (B : Int)] := by (repeat' (first | (with_reducible assumption) | (refine Bx.new (by first | (with_reducible rfl) | (simp; done))) | (with_reducible refine Bx.alloc ?_ _) | (with_reducible refine Bx.drew ?_) | (with_reducible refine Bx.drewN ?_ _) | (with_reducible refine Bx.mono ?_ (by assumption)) | (with_reducible refine Bx.badly ?_ (by assumption) (by omega)) | (with_reducible refine Bx.far ?_ (by (try simp only [World.size_alloc, World.size_drew]); omega)) | (with_reducible refine Bx.set ?_ rfl) | (with_reducible refine Bx.grown ?_ (by assumption) (by assumption))))
  have Xz : Bx w1 (w.heap.size + 1) 99 #[.int .i64 0, .int .i64 0, .int .i64 0, .int .i64 0, .int .i64 0] := by (repeat' (first | (with_reducible assumption) | (refine Bx.new (by first | (with_reducible rfl) | (simp; done))) | (with_reducible refine Bx.alloc ?_ _) | (with_reducible refine Bx.drew ?_) | (with_reducible refine Bx.drewN ?_ _) | (with_reducible refine Bx.mono ?_ (by assumption)) | (with_reducible refine Bx.badly ?_ (by assumption) (by omega)) | (with_reducible refine Bx.far ?_ (by (try simp only [World.size_alloc, World.size_drew]); omega)) | (with_reducible refine Bx.set ?_ rfl) | (with_reducible refine Bx.grown ?_ (by assumption) (by assumption))))
  have hz1 := hb1.size
  (try simp only [World.size_alloc] at hz1)
  have hw1 : Below w.heap.size w w1 := by (repeat' (first | (with_reducible exact Below.refl _ _) | (with_reducible assumption) | (with_reducible refine Below.alloc ?_ ?_ _) | (with_reducible refine Below.drew ?_) | (with_reducible refine below_drewN ?_ _) | (with_reducible refine Below.setCell ?_ ?_ _) | (with_reducible refine chain ?_ (by assumption) ?_) | omega | (simp; done) | (simp; omega)))
  clear hb1
  have g0 := Xg.c 0 rfl
  have g1 := Xg.c 1 rfl
  have g2 := Xg.c 2 rfl
  have lg := Xg.lt
  have z0 := Xz.c 0 rfl
  have z1 := Xz.c 1 rfl
  have z2 := Xz.c 2 rfl
  have z3 := Xz.c 3 rfl
  have z4 := Xz.c 4 rfl
  have lz := Xz.lt
  have fz := Xz.f
  go_wp2_with (fail)
  refine lpw1.mono ?_
  rintro ee w2 ⟨rfl, hb2⟩
  have Yg := Bx.mono ((Xg.alloc _).alloc _) hb2
  have Yz := Bx.mono ((Xz.alloc _).alloc _) hb2
  have Xo : Bx w2 w1.heap.size 99 #[.int .i64 (omP 0).a, .int .i64 (omP 0).b, .int .i64 (omP 0).c, .int .i64 (omP 0).d, .int .i64 (omP 0).e] := Bx.mono ((Bx.new rfl).alloc _) hb2
  have Xe : Bx w2 (w1.heap.size + 1) 99 #[.int .i64 0, .int .i64 0, .int .i64 0, .int .i64 0, .int .i64 0] := Bx.mono (Bx.new (by simp)) hb2
  have hz2 := hb2.size
  (try simp only [World.size_alloc] at hz2)
  have hw2 : Below w.heap.size w w2 := by (repeat' (first | (with_reducible exact Below.refl _ _) | (with_reducible assumption) | (with_reducible refine Below.alloc ?_ ?_ _) | (with_reducible refine Below.drew ?_) | (with_reducible refine below_drewN ?_ _) | (with_reducible refine Below.setCell ?_ ?_ _) | (with_reducible refine chain ?_ (by assumption) ?_) | omega | (simp; done) | (simp; omega)))
  clear hb2 g0 g1 g2 lg Xg z0 z1 z2 z3 z4 lz Xz fz
  obtain ⟨Xg, Xz⟩ : _ ∧ _ := ⟨Yg, Yz⟩
  clear Yg Yz
  have g0 := Xg.c 0 rfl
  have g1 := Xg.c 1 rfl
  have g2 := Xg.c 2 rfl
  have lg := Xg.lt
  have z0 := Xz.c 0 rfl
  have z1 := Xz.c 1 rfl
  have z2 := Xz.c 2 rfl
  have z3 := Xz.c 3 rfl
  have z4 := Xz.c 4 rfl
  have lz := Xz.lt
  have fz := Xz.f
  have o0 := Xo.c 0 rfl
  have o1 := Xo.c 1 rfl
  have o2 := Xo.c 2 rfl
  have o3 := Xo.c 3 rfl
  have o4 := Xo.c 4 rfl
  have lo := Xo.lt
  have fo := Xo.f
  have e0 := Xe.c 0 rfl
  have e1 := Xe.c 1 rfl
  have e2 := Xe.c 2 rfl
  have e3 := Xe.c 3 rfl
  have e4 := Xe.c 4 rfl
  have le := Xe.lt
  have ne1 : w1.heap.size ≠ w.heap.size + 1 := by omega
  have ne2 : w1.heap.size + 1 ≠ w1.heap.size := by omega
  go_wp2_with (fail)
  refine bodyPost_ret (v := dy 0 0 0 0 0) (by first | (simp [results, Try.results194, go_sem, *]; done) | (simp (disch := (first | omega | (simp; done) | (simp; omega))) [results, Try.results194, go_sem, *]; done) | (simp only [results, Try.results194]; go_simp; done)) rfl ⟨rfl, ?_⟩
  (repeat' (first | (with_reducible exact Below.refl _ _) | (with_reducible assumption) | (with_reducible refine Below.alloc ?_ ?_ _) | (with_reducible refine Below.drew ?_) | (with_reducible refine below_drewN ?_ _) | (with_reducible refine Below.setCell ?_ ?_ _) | (with_reducible refine chain ?_ (by assumption) ?_) | omega | (simp; done) | (simp; omega)))

set_option maxRecDepth 100000 in
set_option maxHeartbeats 4000000 in
theorem lc9_01 {n A B r c : Nat} {w : World} (h5 : n ≤ 5) (hr : r < 2 ^ n) (hc : c < 2 ^ n) (hA : A < n) (hB : B < n) (hb : bitS n c A = 0) (h : r = c) :
    Calls Try.prog 194 #[.int .i64 (n : Int), .agg #[.int .i64 9, .int .i64 (A : Int), .int .i64 (B : Int)], .int .i64 (r : Int), .int .i64 (c : Int)] w fun ee w' => ee = .returned (omP 0).v ∧ Below w.heap.size w w' := by
  have hr9 : r < 32 := Nat.lt_of_lt_of_le hr (pow_le h5)
  have hc9 : c < 32 := Nat.lt_of_lt_of_le hc (pow_le h5)
  subst h
  have HB := hid hb
  clear hb
  go_enter Try.func194, Try.ntmps194
  go_wp2_with (fail)
  refine lpw0.mono ?_
  rintro ee w1 ⟨rfl, hb1⟩
  have Xg : Bx w1 (w.heap.size) 150 #[.int .i64 9, .int .i64 (A : Int), .int .i64 (B : Int)] := by (repeat' (first | (with_reducible assumption) | (refine Bx.new (by first | (with_reducible rfl) | (simp; done))) | (with_reducible refine Bx.alloc ?_ _) | (with_reducible refine Bx.drew ?_) | (with_reducible refine Bx.drewN ?_ _) | (with_reducible refine Bx.mono ?_ (by assumption)) | (with_reducible refine Bx.badly ?_ (by assumption) (by omega)) | (with_reducible refine Bx.far ?_ (by (try simp only [World.size_alloc, World.size_drew]); omega)) | (with_reducible refine Bx.set ?_ rfl) | (with_reducible refine Bx.grown ?_ (by assumption) (by assumption))))
  have Xz : Bx w1 (w.heap.size + 1) 99 #[.int .i64 0, .int .i64 0, .int .i64 0, .int .i64 0, .int .i64 0] := by (repeat' (first | (with_reducible assumption) | (refine Bx.new (by first | (with_reducible rfl) | (simp; done))) | (with_reducible refine Bx.alloc ?_ _) | (with_reducible refine Bx.drew ?_) | (with_reducible refine Bx.drewN ?_ _) | (with_reducible refine Bx.mono ?_ (by assumption)) | (with_reducible refine Bx.badly ?_ (by assumption) (by omega)) | (with_reducible refine Bx.far ?_ (by (try simp only [World.size_alloc, World.size_drew]); omega)) | (with_reducible refine Bx.set ?_ rfl) | (with_reducible refine Bx.grown ?_ (by assumption) (by assumption))))
  have hz1 := hb1.size
  (try simp only [World.size_alloc] at hz1)
  have hw1 : Below w.heap.size w w1 := by (repeat' (first | (with_reducible exact Below.refl _ _) | (with_reducible assumption) | (with_reducible refine Below.alloc ?_ ?_ _) | (with_reducible refine Below.drew ?_) | (with_reducible refine below_drewN ?_ _) | (with_reducible refine Below.setCell ?_ ?_ _) | (with_reducible refine chain ?_ (by assumption) ?_) | omega | (simp; done) | (simp; omega)))
  clear hb1
  have g0 := Xg.c 0 rfl
  have g1 := Xg.c 1 rfl
  have g2 := Xg.c 2 rfl
  have lg := Xg.lt
  have z0 := Xz.c 0 rfl
  have z1 := Xz.c 1 rfl
  have z2 := Xz.c 2 rfl
  have z3 := Xz.c 3 rfl
  have z4 := Xz.c 4 rfl
  have lz := Xz.lt
  have fz := Xz.f
  go_wp2_with (fail)
  refine (lbit h5 hA hc9).mono ?_
  rintro ee w2 ⟨rfl, rfl⟩
  rw [HB.out]
  go_wp2_with (fail)
  refine bodyPost_ret (v := dy (omP 0).a (omP 0).b (omP 0).c (omP 0).d (omP 0).e) (by first | (simp [results, Try.results194, go_sem, *]; done) | (simp (disch := (first | omega | (simp; done) | (simp; omega))) [results, Try.results194, go_sem, *]; done) | (simp only [results, Try.results194]; go_simp; done)) rfl ⟨rfl, ?_⟩
  (repeat' (first | (with_reducible exact Below.refl _ _) | (with_reducible assumption) | (with_reducible refine Below.alloc ?_ ?_ _) | (with_reducible refine Below.drew ?_) | (with_reducible refine below_drewN ?_ _) | (with_reducible refine Below.setCell ?_ ?_ _) | (with_reducible refine chain ?_ (by assumption) ?_) | omega | (simp; done) | (simp; omega)))

set_option maxRecDepth 100000 in
set_option maxHeartbeats 4000000 in
theorem lc9_00 {n A B r c : Nat} {w : World} (h5 : n ≤ 5) (hr : r < 2 ^ n) (hc : c < 2 ^ n) (hA : A < n) (hB : B < n) (hb : bitS n c A = 0) (h : ¬ r = c) :
    Calls Try.prog 194 #[.int .i64 (n : Int), .agg #[.int .i64 9, .int .i64 (A : Int), .int .i64 (B : Int)], .int .i64 (r : Int), .int .i64 (c : Int)] w fun ee w' => ee = .returned (z5).v ∧ Below w.heap.size w w' := by
  have hr9 : r < 32 := Nat.lt_of_lt_of_le hr (pow_le h5)
  have hc9 : c < 32 := Nat.lt_of_lt_of_le hc (pow_le h5)
  obtain ⟨k1, k2, k3⟩ := ne32 h
  clear h
  have HB := hid hb
  clear hb
  go_enter Try.func194, Try.ntmps194
  go_wp2_with (fail)
  refine lpw0.mono ?_
  rintro ee w1 ⟨rfl, hb1⟩
  have Xg : Bx w1 (w.heap.size) 150 #[.int .i64 9, .int .i64 (A : Int), .int .i64 (B : Int)] := by (repeat' (first | (with_reducible assumption) | (refine Bx.new (by first | (with_reducible rfl) | (simp; done))) | (with_reducible refine Bx.alloc ?_ _) | (with_reducible refine Bx.drew ?_) | (with_reducible refine Bx.drewN ?_ _) | (with_reducible refine Bx.mono ?_ (by assumption)) | (with_reducible refine Bx.badly ?_ (by assumption) (by omega)) | (with_reducible refine Bx.far ?_ (by (try simp only [World.size_alloc, World.size_drew]); omega)) | (with_reducible refine Bx.set ?_ rfl) | (with_reducible refine Bx.grown ?_ (by assumption) (by assumption))))
  have Xz : Bx w1 (w.heap.size + 1) 99 #[.int .i64 0, .int .i64 0, .int .i64 0, .int .i64 0, .int .i64 0] := by (repeat' (first | (with_reducible assumption) | (refine Bx.new (by first | (with_reducible rfl) | (simp; done))) | (with_reducible refine Bx.alloc ?_ _) | (with_reducible refine Bx.drew ?_) | (with_reducible refine Bx.drewN ?_ _) | (with_reducible refine Bx.mono ?_ (by assumption)) | (with_reducible refine Bx.badly ?_ (by assumption) (by omega)) | (with_reducible refine Bx.far ?_ (by (try simp only [World.size_alloc, World.size_drew]); omega)) | (with_reducible refine Bx.set ?_ rfl) | (with_reducible refine Bx.grown ?_ (by assumption) (by assumption))))
  have hz1 := hb1.size
  (try simp only [World.size_alloc] at hz1)
  have hw1 : Below w.heap.size w w1 := by (repeat' (first | (with_reducible exact Below.refl _ _) | (with_reducible assumption) | (with_reducible refine Below.alloc ?_ ?_ _) | (with_reducible refine Below.drew ?_) | (with_reducible refine below_drewN ?_ _) | (with_reducible refine Below.setCell ?_ ?_ _) | (with_reducible refine chain ?_ (by assumption) ?_) | omega | (simp; done) | (simp; omega)))
  clear hb1
  have g0 := Xg.c 0 rfl
  have g1 := Xg.c 1 rfl
  have g2 := Xg.c 2 rfl
  have lg := Xg.lt
  have z0 := Xz.c 0 rfl
  have z1 := Xz.c 1 rfl
  have z2 := Xz.c 2 rfl
  have z3 := Xz.c 3 rfl
  have z4 := Xz.c 4 rfl
  have lz := Xz.lt
  have fz := Xz.f
  go_wp2_with (fail)
  refine (lbit h5 hA hc9).mono ?_
  rintro ee w2 ⟨rfl, rfl⟩
  rw [HB.out]
  go_wp2_with (fail)
  refine bodyPost_ret (v := dy 0 0 0 0 0) (by first | (simp [results, Try.results194, go_sem, *]; done) | (simp (disch := (first | omega | (simp; done) | (simp; omega))) [results, Try.results194, go_sem, *]; done) | (simp only [results, Try.results194]; go_simp; done)) rfl ⟨rfl, ?_⟩
  (repeat' (first | (with_reducible exact Below.refl _ _) | (with_reducible assumption) | (with_reducible refine Below.alloc ?_ ?_ _) | (with_reducible refine Below.drew ?_) | (with_reducible refine below_drewN ?_ _) | (with_reducible refine Below.setCell ?_ ?_ _) | (with_reducible refine chain ?_ (by assumption) ?_) | omega | (simp; done) | (simp; omega)))

set_option maxRecDepth 100000 in
set_option maxHeartbeats 4000000 in
theorem lc9_11 {n A B r c : Nat} {w : World} (h5 : n ≤ 5) (hr : r < 2 ^ n) (hc : c < 2 ^ n) (hA : A < n) (hB : B < n) (hb : bitS n c A = 1) (h : r = c ^^^ msk n B) :
    Calls Try.prog 194 #[.int .i64 (n : Int), .agg #[.int .i64 9, .int .i64 (A : Int), .int .i64 (B : Int)], .int .i64 (r : Int), .int .i64 (c : Int)] w fun ee w' => ee = .returned (omP 0).v ∧ Below w.heap.size w w' := by
  have hr9 : r < 32 := Nat.lt_of_lt_of_le hr (pow_le h5)
  have hc9 : c < 32 := Nat.lt_of_lt_of_le hc (pow_le h5)
  have hsB := shl_w h5 hB
  have hmB : (B : Int) + 1 ≤ n := by omega
  have hpB : 0 ≤ (n : Int) - 1 - (B : Int) := by omega
  have h4 : (n : Int) ≤ 5 := by omega
  have hx := bxor hc9 (msk32 h5 hB)
  obtain ⟨tt, hto⟩ : ∃ tt : Nat, tt = c ^^^ msk n B := ⟨_, rfl⟩
  rw [← hto] at hx h
  clear hto
  subst h
  have HB := hid hb
  clear hb
  go_enter Try.func194, Try.ntmps194
  go_wp2_with (fail)
  refine lpw0.mono ?_
  rintro ee w1 ⟨rfl, hb1⟩
  have Xg : Bx w1 (w.heap.size) 150 #[.int .i64 9, .int .i64 (A : Int), .int .i64 (B : Int)] := by (repeat' (first | (with_reducible assumption) | (refine Bx.new (by first | (with_reducible rfl) | (simp; done))) | (with_reducible refine Bx.alloc ?_ _) | (with_reducible refine Bx.drew ?_) | (with_reducible refine Bx.drewN ?_ _) | (with_reducible refine Bx.mono ?_ (by assumption)) | (with_reducible refine Bx.badly ?_ (by assumption) (by omega)) | (with_reducible refine Bx.far ?_ (by (try simp only [World.size_alloc, World.size_drew]); omega)) | (with_reducible refine Bx.set ?_ rfl) | (with_reducible refine Bx.grown ?_ (by assumption) (by assumption))))
  have Xz : Bx w1 (w.heap.size + 1) 99 #[.int .i64 0, .int .i64 0, .int .i64 0, .int .i64 0, .int .i64 0] := by (repeat' (first | (with_reducible assumption) | (refine Bx.new (by first | (with_reducible rfl) | (simp; done))) | (with_reducible refine Bx.alloc ?_ _) | (with_reducible refine Bx.drew ?_) | (with_reducible refine Bx.drewN ?_ _) | (with_reducible refine Bx.mono ?_ (by assumption)) | (with_reducible refine Bx.badly ?_ (by assumption) (by omega)) | (with_reducible refine Bx.far ?_ (by (try simp only [World.size_alloc, World.size_drew]); omega)) | (with_reducible refine Bx.set ?_ rfl) | (with_reducible refine Bx.grown ?_ (by assumption) (by assumption))))
  have hz1 := hb1.size
  (try simp only [World.size_alloc] at hz1)
  have hw1 : Below w.heap.size w w1 := by (repeat' (first | (with_reducible exact Below.refl _ _) | (with_reducible assumption) | (with_reducible refine Below.alloc ?_ ?_ _) | (with_reducible refine Below.drew ?_) | (with_reducible refine below_drewN ?_ _) | (with_reducible refine Below.setCell ?_ ?_ _) | (with_reducible refine chain ?_ (by assumption) ?_) | omega | (simp; done) | (simp; omega)))
  clear hb1
  have g0 := Xg.c 0 rfl
  have g1 := Xg.c 1 rfl
  have g2 := Xg.c 2 rfl
  have lg := Xg.lt
  have z0 := Xz.c 0 rfl
  have z1 := Xz.c 1 rfl
  have z2 := Xz.c 2 rfl
  have z3 := Xz.c 3 rfl
  have z4 := Xz.c 4 rfl
  have lz := Xz.lt
  have fz := Xz.f
  go_wp2_with (fail)
  refine (lbit h5 hA hc9).mono ?_
  rintro ee w2 ⟨rfl, rfl⟩
  rw [HB.out]
  go_wp2_with (fail)
  refine bodyPost_ret (v := dy (omP 0).a (omP 0).b (omP 0).c (omP 0).d (omP 0).e) (by first | (simp [results, Try.results194, go_sem, *]; done) | (simp (disch := (first | omega | (simp; done) | (simp; omega))) [results, Try.results194, go_sem, *]; done) | (simp only [results, Try.results194]; go_simp; done)) rfl ⟨rfl, ?_⟩
  (repeat' (first | (with_reducible exact Below.refl _ _) | (with_reducible assumption) | (with_reducible refine Below.alloc ?_ ?_ _) | (with_reducible refine Below.drew ?_) | (with_reducible refine below_drewN ?_ _) | (with_reducible refine Below.setCell ?_ ?_ _) | (with_reducible refine chain ?_ (by assumption) ?_) | omega | (simp; done) | (simp; omega)))

set_option maxRecDepth 100000 in
set_option maxHeartbeats 4000000 in
theorem lc9_10 {n A B r c : Nat} {w : World} (h5 : n ≤ 5) (hr : r < 2 ^ n) (hc : c < 2 ^ n) (hA : A < n) (hB : B < n) (hb : bitS n c A = 1) (h : ¬ r = c ^^^ msk n B) :
    Calls Try.prog 194 #[.int .i64 (n : Int), .agg #[.int .i64 9, .int .i64 (A : Int), .int .i64 (B : Int)], .int .i64 (r : Int), .int .i64 (c : Int)] w fun ee w' => ee = .returned (z5).v ∧ Below w.heap.size w w' := by
  have hr9 : r < 32 := Nat.lt_of_lt_of_le hr (pow_le h5)
  have hc9 : c < 32 := Nat.lt_of_lt_of_le hc (pow_le h5)
  have hsB := shl_w h5 hB
  have hmB : (B : Int) + 1 ≤ n := by omega
  have hpB : 0 ≤ (n : Int) - 1 - (B : Int) := by omega
  have h4 : (n : Int) ≤ 5 := by omega
  have hx := bxor hc9 (msk32 h5 hB)
  obtain ⟨tt, hto⟩ : ∃ tt : Nat, tt = c ^^^ msk n B := ⟨_, rfl⟩
  rw [← hto] at hx h
  clear hto
  obtain ⟨k1, k2, k3⟩ := ne32 h
  clear h
  have HB := hid hb
  clear hb
  go_enter Try.func194, Try.ntmps194
  go_wp2_with (fail)
  refine lpw0.mono ?_
  rintro ee w1 ⟨rfl, hb1⟩
  have Xg : Bx w1 (w.heap.size) 150 #[.int .i64 9, .int .i64 (A : Int), .int .i64 (B : Int)] := by (repeat' (first | (with_reducible assumption) | (refine Bx.new (by first | (with_reducible rfl) | (simp; done))) | (with_reducible refine Bx.alloc ?_ _) | (with_reducible refine Bx.drew ?_) | (with_reducible refine Bx.drewN ?_ _) | (with_reducible refine Bx.mono ?_ (by assumption)) | (with_reducible refine Bx.badly ?_ (by assumption) (by omega)) | (with_reducible refine Bx.far ?_ (by (try simp only [World.size_alloc, World.size_drew]); omega)) | (with_reducible refine Bx.set ?_ rfl) | (with_reducible refine Bx.grown ?_ (by assumption) (by assumption))))
  have Xz : Bx w1 (w.heap.size + 1) 99 #[.int .i64 0, .int .i64 0, .int .i64 0, .int .i64 0, .int .i64 0] := by (repeat' (first | (with_reducible assumption) | (refine Bx.new (by first | (with_reducible rfl) | (simp; done))) | (with_reducible refine Bx.alloc ?_ _) | (with_reducible refine Bx.drew ?_) | (with_reducible refine Bx.drewN ?_ _) | (with_reducible refine Bx.mono ?_ (by assumption)) | (with_reducible refine Bx.badly ?_ (by assumption) (by omega)) | (with_reducible refine Bx.far ?_ (by (try simp only [World.size_alloc, World.size_drew]); omega)) | (with_reducible refine Bx.set ?_ rfl) | (with_reducible refine Bx.grown ?_ (by assumption) (by assumption))))
  have hz1 := hb1.size
  (try simp only [World.size_alloc] at hz1)
  have hw1 : Below w.heap.size w w1 := by (repeat' (first | (with_reducible exact Below.refl _ _) | (with_reducible assumption) | (with_reducible refine Below.alloc ?_ ?_ _) | (with_reducible refine Below.drew ?_) | (with_reducible refine below_drewN ?_ _) | (with_reducible refine Below.setCell ?_ ?_ _) | (with_reducible refine chain ?_ (by assumption) ?_) | omega | (simp; done) | (simp; omega)))
  clear hb1
  have g0 := Xg.c 0 rfl
  have g1 := Xg.c 1 rfl
  have g2 := Xg.c 2 rfl
  have lg := Xg.lt
  have z0 := Xz.c 0 rfl
  have z1 := Xz.c 1 rfl
  have z2 := Xz.c 2 rfl
  have z3 := Xz.c 3 rfl
  have z4 := Xz.c 4 rfl
  have lz := Xz.lt
  have fz := Xz.f
  go_wp2_with (fail)
  refine (lbit h5 hA hc9).mono ?_
  rintro ee w2 ⟨rfl, rfl⟩
  rw [HB.out]
  go_wp2_with (fail)
  refine bodyPost_ret (v := dy 0 0 0 0 0) (by first | (simp [results, Try.results194, go_sem, *]; done) | (simp (disch := (first | omega | (simp; done) | (simp; omega))) [results, Try.results194, go_sem, *]; done) | (simp only [results, Try.results194]; go_simp; done)) rfl ⟨rfl, ?_⟩
  (repeat' (first | (with_reducible exact Below.refl _ _) | (with_reducible assumption) | (with_reducible refine Below.alloc ?_ ?_ _) | (with_reducible refine Below.drew ?_) | (with_reducible refine below_drewN ?_ _) | (with_reducible refine Below.setCell ?_ ?_ _) | (with_reducible refine chain ?_ (by assumption) ?_) | omega | (simp; done) | (simp; omega)))

set_option maxRecDepth 100000 in
set_option maxHeartbeats 4000000 in
theorem lc10_01 {n A B r c : Nat} {w : World} (h5 : n ≤ 5) (hr : r < 2 ^ n) (hc : c < 2 ^ n) (hA : A < n) (hB : B < n) (hb : bitS n c A = 0) (h : r = c) :
    Calls Try.prog 194 #[.int .i64 (n : Int), .agg #[.int .i64 10, .int .i64 (A : Int), .int .i64 (B : Int)], .int .i64 (r : Int), .int .i64 (c : Int)] w fun ee w' => ee = .returned (omP 0).v ∧ Below w.heap.size w w' := by
  have hr9 : r < 32 := Nat.lt_of_lt_of_le hr (pow_le h5)
  have hc9 : c < 32 := Nat.lt_of_lt_of_le hc (pow_le h5)
  subst h
  have HB := hid hb
  clear hb
  go_enter Try.func194, Try.ntmps194
  go_wp2_with (fail)
  refine lpw0.mono ?_
  rintro ee w1 ⟨rfl, hb1⟩
  have Xg : Bx w1 (w.heap.size) 150 #[.int .i64 10, .int .i64 (A : Int), .int .i64 (B : Int)] := by (repeat' (first | (with_reducible assumption) | (refine Bx.new (by first | (with_reducible rfl) | (simp; done))) | (with_reducible refine Bx.alloc ?_ _) | (with_reducible refine Bx.drew ?_) | (with_reducible refine Bx.drewN ?_ _) | (with_reducible refine Bx.mono ?_ (by assumption)) | (with_reducible refine Bx.badly ?_ (by assumption) (by omega)) | (with_reducible refine Bx.far ?_ (by (try simp only [World.size_alloc, World.size_drew]); omega)) | (with_reducible refine Bx.set ?_ rfl) | (with_reducible refine Bx.grown ?_ (by assumption) (by assumption))))
  have Xz : Bx w1 (w.heap.size + 1) 99 #[.int .i64 0, .int .i64 0, .int .i64 0, .int .i64 0, .int .i64 0] := by (repeat' (first | (with_reducible assumption) | (refine Bx.new (by first | (with_reducible rfl) | (simp; done))) | (with_reducible refine Bx.alloc ?_ _) | (with_reducible refine Bx.drew ?_) | (with_reducible refine Bx.drewN ?_ _) | (with_reducible refine Bx.mono ?_ (by assumption)) | (with_reducible refine Bx.badly ?_ (by assumption) (by omega)) | (with_reducible refine Bx.far ?_ (by (try simp only [World.size_alloc, World.size_drew]); omega)) | (with_reducible refine Bx.set ?_ rfl) | (with_reducible refine Bx.grown ?_ (by assumption) (by assumption))))
  have hz1 := hb1.size
  (try simp only [World.size_alloc] at hz1)
  have hw1 : Below w.heap.size w w1 := by (repeat' (first | (with_reducible exact Below.refl _ _) | (with_reducible assumption) | (with_reducible refine Below.alloc ?_ ?_ _) | (with_reducible refine Below.drew ?_) | (with_reducible refine below_drewN ?_ _) | (with_reducible refine Below.setCell ?_ ?_ _) | (with_reducible refine chain ?_ (by assumption) ?_) | omega | (simp; done) | (simp; omega)))
  clear hb1
  have g0 := Xg.c 0 rfl
  have g1 := Xg.c 1 rfl
  have g2 := Xg.c 2 rfl
  have lg := Xg.lt
  have z0 := Xz.c 0 rfl
  have z1 := Xz.c 1 rfl
  have z2 := Xz.c 2 rfl
  have z3 := Xz.c 3 rfl
  have z4 := Xz.c 4 rfl
  have lz := Xz.lt
  have fz := Xz.f
  go_wp2_with (fail)
  refine (lbit h5 hA hc9).mono ?_
  rintro ee w2 ⟨rfl, rfl⟩
  rw [HB.out]
  go_wp2_with (fail)
  refine bodyPost_ret (v := dy (omP 0).a (omP 0).b (omP 0).c (omP 0).d (omP 0).e) (by first | (simp [results, Try.results194, go_sem, *]; done) | (simp (disch := (first | omega | (simp; done) | (simp; omega))) [results, Try.results194, go_sem, *]; done) | (simp only [results, Try.results194]; go_simp; done)) rfl ⟨rfl, ?_⟩
  (repeat' (first | (with_reducible exact Below.refl _ _) | (with_reducible assumption) | (with_reducible refine Below.alloc ?_ ?_ _) | (with_reducible refine Below.drew ?_) | (with_reducible refine below_drewN ?_ _) | (with_reducible refine Below.setCell ?_ ?_ _) | (with_reducible refine chain ?_ (by assumption) ?_) | omega | (simp; done) | (simp; omega)))

set_option maxRecDepth 100000 in
set_option maxHeartbeats 4000000 in
theorem lc10_00 {n A B r c : Nat} {w : World} (h5 : n ≤ 5) (hr : r < 2 ^ n) (hc : c < 2 ^ n) (hA : A < n) (hB : B < n) (hb : bitS n c A = 0) (h : ¬ r = c) :
    Calls Try.prog 194 #[.int .i64 (n : Int), .agg #[.int .i64 10, .int .i64 (A : Int), .int .i64 (B : Int)], .int .i64 (r : Int), .int .i64 (c : Int)] w fun ee w' => ee = .returned (z5).v ∧ Below w.heap.size w w' := by
  have hr9 : r < 32 := Nat.lt_of_lt_of_le hr (pow_le h5)
  have hc9 : c < 32 := Nat.lt_of_lt_of_le hc (pow_le h5)
  obtain ⟨k1, k2, k3⟩ := ne32 h
  clear h
  have HB := hid hb
  clear hb
  go_enter Try.func194, Try.ntmps194
  go_wp2_with (fail)
  refine lpw0.mono ?_
  rintro ee w1 ⟨rfl, hb1⟩
  have Xg : Bx w1 (w.heap.size) 150 #[.int .i64 10, .int .i64 (A : Int), .int .i64 (B : Int)] := by (repeat' (first | (with_reducible assumption) | (refine Bx.new (by first | (with_reducible rfl) | (simp; done))) | (with_reducible refine Bx.alloc ?_ _) | (with_reducible refine Bx.drew ?_) | (with_reducible refine Bx.drewN ?_ _) | (with_reducible refine Bx.mono ?_ (by assumption)) | (with_reducible refine Bx.badly ?_ (by assumption) (by omega)) | (with_reducible refine Bx.far ?_ (by (try simp only [World.size_alloc, World.size_drew]); omega)) | (with_reducible refine Bx.set ?_ rfl) | (with_reducible refine Bx.grown ?_ (by assumption) (by assumption))))
  have Xz : Bx w1 (w.heap.size + 1) 99 #[.int .i64 0, .int .i64 0, .int .i64 0, .int .i64 0, .int .i64 0] := by (repeat' (first | (with_reducible assumption) | (refine Bx.new (by first | (with_reducible rfl) | (simp; done))) | (with_reducible refine Bx.alloc ?_ _) | (with_reducible refine Bx.drew ?_) | (with_reducible refine Bx.drewN ?_ _) | (with_reducible refine Bx.mono ?_ (by assumption)) | (with_reducible refine Bx.badly ?_ (by assumption) (by omega)) | (with_reducible refine Bx.far ?_ (by (try simp only [World.size_alloc, World.size_drew]); omega)) | (with_reducible refine Bx.set ?_ rfl) | (with_reducible refine Bx.grown ?_ (by assumption) (by assumption))))
  have hz1 := hb1.size
  (try simp only [World.size_alloc] at hz1)
  have hw1 : Below w.heap.size w w1 := by (repeat' (first | (with_reducible exact Below.refl _ _) | (with_reducible assumption) | (with_reducible refine Below.alloc ?_ ?_ _) | (with_reducible refine Below.drew ?_) | (with_reducible refine below_drewN ?_ _) | (with_reducible refine Below.setCell ?_ ?_ _) | (with_reducible refine chain ?_ (by assumption) ?_) | omega | (simp; done) | (simp; omega)))
  clear hb1
  have g0 := Xg.c 0 rfl
  have g1 := Xg.c 1 rfl
  have g2 := Xg.c 2 rfl
  have lg := Xg.lt
  have z0 := Xz.c 0 rfl
  have z1 := Xz.c 1 rfl
  have z2 := Xz.c 2 rfl
  have z3 := Xz.c 3 rfl
  have z4 := Xz.c 4 rfl
  have lz := Xz.lt
  have fz := Xz.f
  go_wp2_with (fail)
  refine (lbit h5 hA hc9).mono ?_
  rintro ee w2 ⟨rfl, rfl⟩
  rw [HB.out]
  go_wp2_with (fail)
  refine bodyPost_ret (v := dy 0 0 0 0 0) (by first | (simp [results, Try.results194, go_sem, *]; done) | (simp (disch := (first | omega | (simp; done) | (simp; omega))) [results, Try.results194, go_sem, *]; done) | (simp only [results, Try.results194]; go_simp; done)) rfl ⟨rfl, ?_⟩
  (repeat' (first | (with_reducible exact Below.refl _ _) | (with_reducible assumption) | (with_reducible refine Below.alloc ?_ ?_ _) | (with_reducible refine Below.drew ?_) | (with_reducible refine below_drewN ?_ _) | (with_reducible refine Below.setCell ?_ ?_ _) | (with_reducible refine chain ?_ (by assumption) ?_) | omega | (simp; done) | (simp; omega)))

set_option maxRecDepth 100000 in
set_option maxHeartbeats 4000000 in
theorem lc10_101 {n A B r c : Nat} {w : World} (h5 : n ≤ 5) (hr : r < 2 ^ n) (hc : c < 2 ^ n) (hA : A < n) (hB : B < n) (hb : bitS n c A = 1) (hb2 : bitS n c B = 0) (h : r = c) :
    Calls Try.prog 194 #[.int .i64 (n : Int), .agg #[.int .i64 10, .int .i64 (A : Int), .int .i64 (B : Int)], .int .i64 (r : Int), .int .i64 (c : Int)] w fun ee w' => ee = .returned (omP 0).v ∧ Below w.heap.size w w' := by
  have hr9 : r < 32 := Nat.lt_of_lt_of_le hr (pow_le h5)
  have hc9 : c < 32 := Nat.lt_of_lt_of_le hc (pow_le h5)
  subst h
  have HB := hid hb
  clear hb
  have HB2 := hid hb2
  clear hb2
  go_enter Try.func194, Try.ntmps194
  go_wp2_with (fail)
  refine lpw0.mono ?_
  rintro ee w1 ⟨rfl, hb1⟩
  have Xg : Bx w1 (w.heap.size) 150 #[.int .i64 10, .int .i64 (A : Int), .int .i64 (B : Int)] := by (repeat' (first | (with_reducible assumption) | (refine Bx.new (by first | (with_reducible rfl) | (simp; done))) | (with_reducible refine Bx.alloc ?_ _) | (with_reducible refine Bx.drew ?_) | (with_reducible refine Bx.drewN ?_ _) | (with_reducible refine Bx.mono ?_ (by assumption)) | (with_reducible refine Bx.badly ?_ (by assumption) (by omega)) | (with_reducible refine Bx.far ?_ (by (try simp only [World.size_alloc, World.size_drew]); omega)) | (with_reducible refine Bx.set ?_ rfl) | (with_reducible refine Bx.grown ?_ (by assumption) (by assumption))))
  have Xz : Bx w1 (w.heap.size + 1) 99 #[.int .i64 0, .int .i64 0, .int .i64 0, .int .i64 0, .int .i64 0] := by (repeat' (first | (with_reducible assumption) | (refine Bx.new (by first | (with_reducible rfl) | (simp; done))) | (with_reducible refine Bx.alloc ?_ _) | (with_reducible refine Bx.drew ?_) | (with_reducible refine Bx.drewN ?_ _) | (with_reducible refine Bx.mono ?_ (by assumption)) | (with_reducible refine Bx.badly ?_ (by assumption) (by omega)) | (with_reducible refine Bx.far ?_ (by (try simp only [World.size_alloc, World.size_drew]); omega)) | (with_reducible refine Bx.set ?_ rfl) | (with_reducible refine Bx.grown ?_ (by assumption) (by assumption))))
  have hz1 := hb1.size
  (try simp only [World.size_alloc] at hz1)
  have hw1 : Below w.heap.size w w1 := by (repeat' (first | (with_reducible exact Below.refl _ _) | (with_reducible assumption) | (with_reducible refine Below.alloc ?_ ?_ _) | (with_reducible refine Below.drew ?_) | (with_reducible refine below_drewN ?_ _) | (with_reducible refine Below.setCell ?_ ?_ _) | (with_reducible refine chain ?_ (by assumption) ?_) | omega | (simp; done) | (simp; omega)))
  clear hb1
  have g0 := Xg.c 0 rfl
  have g1 := Xg.c 1 rfl
  have g2 := Xg.c 2 rfl
  have lg := Xg.lt
  have z0 := Xz.c 0 rfl
  have z1 := Xz.c 1 rfl
  have z2 := Xz.c 2 rfl
  have z3 := Xz.c 3 rfl
  have z4 := Xz.c 4 rfl
  have lz := Xz.lt
  have fz := Xz.f
  go_wp2_with (fail)
  refine (lbit h5 hA hc9).mono ?_
  rintro ee w2 ⟨rfl, rfl⟩
  rw [HB.out]
  go_wp2_with (fail)
  refine (lbit h5 hB hc9).mono ?_
  rintro ee w3 ⟨rfl, rfl⟩
  rw [HB2.out]
  go_wp2_with (fail)
  refine bodyPost_ret (v := dy (omP 0).a (omP 0).b (omP 0).c (omP 0).d (omP 0).e) (by first | (simp [results, Try.results194, go_sem, *]; done) | (simp (disch := (first | omega | (simp; done) | (simp; omega))) [results, Try.results194, go_sem, *]; done) | (simp only [results, Try.results194]; go_simp; done)) rfl ⟨rfl, ?_⟩
  (repeat' (first | (with_reducible exact Below.refl _ _) | (with_reducible assumption) | (with_reducible refine Below.alloc ?_ ?_ _) | (with_reducible refine Below.drew ?_) | (with_reducible refine below_drewN ?_ _) | (with_reducible refine Below.setCell ?_ ?_ _) | (with_reducible refine chain ?_ (by assumption) ?_) | omega | (simp; done) | (simp; omega)))

set_option maxRecDepth 100000 in
set_option maxHeartbeats 4000000 in
theorem lc10_100 {n A B r c : Nat} {w : World} (h5 : n ≤ 5) (hr : r < 2 ^ n) (hc : c < 2 ^ n) (hA : A < n) (hB : B < n) (hb : bitS n c A = 1) (hb2 : bitS n c B = 0) (h : ¬ r = c) :
    Calls Try.prog 194 #[.int .i64 (n : Int), .agg #[.int .i64 10, .int .i64 (A : Int), .int .i64 (B : Int)], .int .i64 (r : Int), .int .i64 (c : Int)] w fun ee w' => ee = .returned (z5).v ∧ Below w.heap.size w w' := by
  have hr9 : r < 32 := Nat.lt_of_lt_of_le hr (pow_le h5)
  have hc9 : c < 32 := Nat.lt_of_lt_of_le hc (pow_le h5)
  obtain ⟨k1, k2, k3⟩ := ne32 h
  clear h
  have HB := hid hb
  clear hb
  have HB2 := hid hb2
  clear hb2
  go_enter Try.func194, Try.ntmps194
  go_wp2_with (fail)
  refine lpw0.mono ?_
  rintro ee w1 ⟨rfl, hb1⟩
  have Xg : Bx w1 (w.heap.size) 150 #[.int .i64 10, .int .i64 (A : Int), .int .i64 (B : Int)] := by (repeat' (first | (with_reducible assumption) | (refine Bx.new (by first | (with_reducible rfl) | (simp; done))) | (with_reducible refine Bx.alloc ?_ _) | (with_reducible refine Bx.drew ?_) | (with_reducible refine Bx.drewN ?_ _) | (with_reducible refine Bx.mono ?_ (by assumption)) | (with_reducible refine Bx.badly ?_ (by assumption) (by omega)) | (with_reducible refine Bx.far ?_ (by (try simp only [World.size_alloc, World.size_drew]); omega)) | (with_reducible refine Bx.set ?_ rfl) | (with_reducible refine Bx.grown ?_ (by assumption) (by assumption))))
  have Xz : Bx w1 (w.heap.size + 1) 99 #[.int .i64 0, .int .i64 0, .int .i64 0, .int .i64 0, .int .i64 0] := by (repeat' (first | (with_reducible assumption) | (refine Bx.new (by first | (with_reducible rfl) | (simp; done))) | (with_reducible refine Bx.alloc ?_ _) | (with_reducible refine Bx.drew ?_) | (with_reducible refine Bx.drewN ?_ _) | (with_reducible refine Bx.mono ?_ (by assumption)) | (with_reducible refine Bx.badly ?_ (by assumption) (by omega)) | (with_reducible refine Bx.far ?_ (by (try simp only [World.size_alloc, World.size_drew]); omega)) | (with_reducible refine Bx.set ?_ rfl) | (with_reducible refine Bx.grown ?_ (by assumption) (by assumption))))
  have hz1 := hb1.size
  (try simp only [World.size_alloc] at hz1)
  have hw1 : Below w.heap.size w w1 := by (repeat' (first | (with_reducible exact Below.refl _ _) | (with_reducible assumption) | (with_reducible refine Below.alloc ?_ ?_ _) | (with_reducible refine Below.drew ?_) | (with_reducible refine below_drewN ?_ _) | (with_reducible refine Below.setCell ?_ ?_ _) | (with_reducible refine chain ?_ (by assumption) ?_) | omega | (simp; done) | (simp; omega)))
  clear hb1
  have g0 := Xg.c 0 rfl
  have g1 := Xg.c 1 rfl
  have g2 := Xg.c 2 rfl
  have lg := Xg.lt
  have z0 := Xz.c 0 rfl
  have z1 := Xz.c 1 rfl
  have z2 := Xz.c 2 rfl
  have z3 := Xz.c 3 rfl
  have z4 := Xz.c 4 rfl
  have lz := Xz.lt
  have fz := Xz.f
  go_wp2_with (fail)
  refine (lbit h5 hA hc9).mono ?_
  rintro ee w2 ⟨rfl, rfl⟩
  rw [HB.out]
  go_wp2_with (fail)
  refine (lbit h5 hB hc9).mono ?_
  rintro ee w3 ⟨rfl, rfl⟩
  rw [HB2.out]
  go_wp2_with (fail)
  refine bodyPost_ret (v := dy 0 0 0 0 0) (by first | (simp [results, Try.results194, go_sem, *]; done) | (simp (disch := (first | omega | (simp; done) | (simp; omega))) [results, Try.results194, go_sem, *]; done) | (simp only [results, Try.results194]; go_simp; done)) rfl ⟨rfl, ?_⟩
  (repeat' (first | (with_reducible exact Below.refl _ _) | (with_reducible assumption) | (with_reducible refine Below.alloc ?_ ?_ _) | (with_reducible refine Below.drew ?_) | (with_reducible refine below_drewN ?_ _) | (with_reducible refine Below.setCell ?_ ?_ _) | (with_reducible refine chain ?_ (by assumption) ?_) | omega | (simp; done) | (simp; omega)))

set_option maxRecDepth 100000 in
set_option maxHeartbeats 4000000 in
theorem lc10_111 {n A B r c : Nat} {w : World} (h5 : n ≤ 5) (hr : r < 2 ^ n) (hc : c < 2 ^ n) (hA : A < n) (hB : B < n) (hb : bitS n c A = 1) (hb2 : bitS n c B = 1) (h : r = c) :
    Calls Try.prog 194 #[.int .i64 (n : Int), .agg #[.int .i64 10, .int .i64 (A : Int), .int .i64 (B : Int)], .int .i64 (r : Int), .int .i64 (c : Int)] w fun ee w' => ee = .returned (omP 4).v ∧ Below w.heap.size w w' := by
  have hr9 : r < 32 := Nat.lt_of_lt_of_le hr (pow_le h5)
  have hc9 : c < 32 := Nat.lt_of_lt_of_le hc (pow_le h5)
  subst h
  have HB := hid hb
  clear hb
  have HB2 := hid hb2
  clear hb2
  go_enter Try.func194, Try.ntmps194
  go_wp2_with (fail)
  refine lpw0.mono ?_
  rintro ee w1 ⟨rfl, hb1⟩
  have Xg : Bx w1 (w.heap.size) 150 #[.int .i64 10, .int .i64 (A : Int), .int .i64 (B : Int)] := by (repeat' (first | (with_reducible assumption) | (refine Bx.new (by first | (with_reducible rfl) | (simp; done))) | (with_reducible refine Bx.alloc ?_ _) | (with_reducible refine Bx.drew ?_) | (with_reducible refine Bx.drewN ?_ _) | (with_reducible refine Bx.mono ?_ (by assumption)) | (with_reducible refine Bx.badly ?_ (by assumption) (by omega)) | (with_reducible refine Bx.far ?_ (by (try simp only [World.size_alloc, World.size_drew]); omega)) | (with_reducible refine Bx.set ?_ rfl) | (with_reducible refine Bx.grown ?_ (by assumption) (by assumption))))
  have Xz : Bx w1 (w.heap.size + 1) 99 #[.int .i64 0, .int .i64 0, .int .i64 0, .int .i64 0, .int .i64 0] := by (repeat' (first | (with_reducible assumption) | (refine Bx.new (by first | (with_reducible rfl) | (simp; done))) | (with_reducible refine Bx.alloc ?_ _) | (with_reducible refine Bx.drew ?_) | (with_reducible refine Bx.drewN ?_ _) | (with_reducible refine Bx.mono ?_ (by assumption)) | (with_reducible refine Bx.badly ?_ (by assumption) (by omega)) | (with_reducible refine Bx.far ?_ (by (try simp only [World.size_alloc, World.size_drew]); omega)) | (with_reducible refine Bx.set ?_ rfl) | (with_reducible refine Bx.grown ?_ (by assumption) (by assumption))))
  have hz1 := hb1.size
  (try simp only [World.size_alloc] at hz1)
  have hw1 : Below w.heap.size w w1 := by (repeat' (first | (with_reducible exact Below.refl _ _) | (with_reducible assumption) | (with_reducible refine Below.alloc ?_ ?_ _) | (with_reducible refine Below.drew ?_) | (with_reducible refine below_drewN ?_ _) | (with_reducible refine Below.setCell ?_ ?_ _) | (with_reducible refine chain ?_ (by assumption) ?_) | omega | (simp; done) | (simp; omega)))
  clear hb1
  have g0 := Xg.c 0 rfl
  have g1 := Xg.c 1 rfl
  have g2 := Xg.c 2 rfl
  have lg := Xg.lt
  have z0 := Xz.c 0 rfl
  have z1 := Xz.c 1 rfl
  have z2 := Xz.c 2 rfl
  have z3 := Xz.c 3 rfl
  have z4 := Xz.c 4 rfl
  have lz := Xz.lt
  have fz := Xz.f
  go_wp2_with (fail)
  refine (lbit h5 hA hc9).mono ?_
  rintro ee w2 ⟨rfl, rfl⟩
  rw [HB.out]
  go_wp2_with (fail)
  refine (lbit h5 hB hc9).mono ?_
  rintro ee w3 ⟨rfl, rfl⟩
  rw [HB2.out]
  go_wp2_with (fail)
  refine lpw4.mono ?_
  rintro ee w2 ⟨rfl, hb2⟩
  have Yg := Bx.mono ((Xg.alloc _).alloc _) hb2
  have Yz := Bx.mono ((Xz.alloc _).alloc _) hb2
  have Xo : Bx w2 w1.heap.size 99 #[.int .i64 (omP 0).a, .int .i64 (omP 0).b, .int .i64 (omP 0).c, .int .i64 (omP 0).d, .int .i64 (omP 0).e] := Bx.mono ((Bx.new rfl).alloc _) hb2
  have Xe : Bx w2 (w1.heap.size + 1) 99 #[.int .i64 0, .int .i64 0, .int .i64 0, .int .i64 0, .int .i64 0] := Bx.mono (Bx.new (by simp)) hb2
  have hz2 := hb2.size
  (try simp only [World.size_alloc] at hz2)
  have hw2 : Below w.heap.size w w2 := by (repeat' (first | (with_reducible exact Below.refl _ _) | (with_reducible assumption) | (with_reducible refine Below.alloc ?_ ?_ _) | (with_reducible refine Below.drew ?_) | (with_reducible refine below_drewN ?_ _) | (with_reducible refine Below.setCell ?_ ?_ _) | (with_reducible refine chain ?_ (by assumption) ?_) | omega | (simp; done) | (simp; omega)))
  clear hb2 g0 g1 g2 lg Xg z0 z1 z2 z3 z4 lz Xz fz
  obtain ⟨Xg, Xz⟩ : _ ∧ _ := ⟨Yg, Yz⟩
  clear Yg Yz
  have g0 := Xg.c 0 rfl
  have g1 := Xg.c 1 rfl
  have g2 := Xg.c 2 rfl
  have lg := Xg.lt
  have z0 := Xz.c 0 rfl
  have z1 := Xz.c 1 rfl
  have z2 := Xz.c 2 rfl
  have z3 := Xz.c 3 rfl
  have z4 := Xz.c 4 rfl
  have lz := Xz.lt
  have fz := Xz.f
  have o0 := Xo.c 0 rfl
  have o1 := Xo.c 1 rfl
  have o2 := Xo.c 2 rfl
  have o3 := Xo.c 3 rfl
  have o4 := Xo.c 4 rfl
  have lo := Xo.lt
  have fo := Xo.f
  have e0 := Xe.c 0 rfl
  have e1 := Xe.c 1 rfl
  have e2 := Xe.c 2 rfl
  have e3 := Xe.c 3 rfl
  have e4 := Xe.c 4 rfl
  have le := Xe.lt
  have ne1 : w1.heap.size ≠ w.heap.size + 1 := by omega
  have ne2 : w1.heap.size + 1 ≠ w1.heap.size := by omega
  go_wp2_with (fail)
  refine bodyPost_ret (v := dy (omP 4).a (omP 4).b (omP 4).c (omP 4).d (omP 4).e) (by first | (simp [results, Try.results194, go_sem, *]; done) | (simp (disch := (first | omega | (simp; done) | (simp; omega))) [results, Try.results194, go_sem, *]; done) | (simp only [results, Try.results194]; go_simp; done)) rfl ⟨rfl, ?_⟩
  (repeat' (first | (with_reducible exact Below.refl _ _) | (with_reducible assumption) | (with_reducible refine Below.alloc ?_ ?_ _) | (with_reducible refine Below.drew ?_) | (with_reducible refine below_drewN ?_ _) | (with_reducible refine Below.setCell ?_ ?_ _) | (with_reducible refine chain ?_ (by assumption) ?_) | omega | (simp; done) | (simp; omega)))

set_option maxRecDepth 100000 in
set_option maxHeartbeats 4000000 in
theorem lc10_110 {n A B r c : Nat} {w : World} (h5 : n ≤ 5) (hr : r < 2 ^ n) (hc : c < 2 ^ n) (hA : A < n) (hB : B < n) (hb : bitS n c A = 1) (hb2 : bitS n c B = 1) (h : ¬ r = c) :
    Calls Try.prog 194 #[.int .i64 (n : Int), .agg #[.int .i64 10, .int .i64 (A : Int), .int .i64 (B : Int)], .int .i64 (r : Int), .int .i64 (c : Int)] w fun ee w' => ee = .returned (z5).v ∧ Below w.heap.size w w' := by
  have hr9 : r < 32 := Nat.lt_of_lt_of_le hr (pow_le h5)
  have hc9 : c < 32 := Nat.lt_of_lt_of_le hc (pow_le h5)
  obtain ⟨k1, k2, k3⟩ := ne32 h
  clear h
  have HB := hid hb
  clear hb
  have HB2 := hid hb2
  clear hb2
  go_enter Try.func194, Try.ntmps194
  go_wp2_with (fail)
  refine lpw0.mono ?_
  rintro ee w1 ⟨rfl, hb1⟩
  have Xg : Bx w1 (w.heap.size) 150 #[.int .i64 10, .int .i64 (A : Int), .int .i64 (B : Int)] := by (repeat' (first | (with_reducible assumption) | (refine Bx.new (by first | (with_reducible rfl) | (simp; done))) | (with_reducible refine Bx.alloc ?_ _) | (with_reducible refine Bx.drew ?_) | (with_reducible refine Bx.drewN ?_ _) | (with_reducible refine Bx.mono ?_ (by assumption)) | (with_reducible refine Bx.badly ?_ (by assumption) (by omega)) | (with_reducible refine Bx.far ?_ (by (try simp only [World.size_alloc, World.size_drew]); omega)) | (with_reducible refine Bx.set ?_ rfl) | (with_reducible refine Bx.grown ?_ (by assumption) (by assumption))))
  have Xz : Bx w1 (w.heap.size + 1) 99 #[.int .i64 0, .int .i64 0, .int .i64 0, .int .i64 0, .int .i64 0] := by (repeat' (first | (with_reducible assumption) | (refine Bx.new (by first | (with_reducible rfl) | (simp; done))) | (with_reducible refine Bx.alloc ?_ _) | (with_reducible refine Bx.drew ?_) | (with_reducible refine Bx.drewN ?_ _) | (with_reducible refine Bx.mono ?_ (by assumption)) | (with_reducible refine Bx.badly ?_ (by assumption) (by omega)) | (with_reducible refine Bx.far ?_ (by (try simp only [World.size_alloc, World.size_drew]); omega)) | (with_reducible refine Bx.set ?_ rfl) | (with_reducible refine Bx.grown ?_ (by assumption) (by assumption))))
  have hz1 := hb1.size
  (try simp only [World.size_alloc] at hz1)
  have hw1 : Below w.heap.size w w1 := by (repeat' (first | (with_reducible exact Below.refl _ _) | (with_reducible assumption) | (with_reducible refine Below.alloc ?_ ?_ _) | (with_reducible refine Below.drew ?_) | (with_reducible refine below_drewN ?_ _) | (with_reducible refine Below.setCell ?_ ?_ _) | (with_reducible refine chain ?_ (by assumption) ?_) | omega | (simp; done) | (simp; omega)))
  clear hb1
  have g0 := Xg.c 0 rfl
  have g1 := Xg.c 1 rfl
  have g2 := Xg.c 2 rfl
  have lg := Xg.lt
  have z0 := Xz.c 0 rfl
  have z1 := Xz.c 1 rfl
  have z2 := Xz.c 2 rfl
  have z3 := Xz.c 3 rfl
  have z4 := Xz.c 4 rfl
  have lz := Xz.lt
  have fz := Xz.f
  go_wp2_with (fail)
  refine (lbit h5 hA hc9).mono ?_
  rintro ee w2 ⟨rfl, rfl⟩
  rw [HB.out]
  go_wp2_with (fail)
  refine (lbit h5 hB hc9).mono ?_
  rintro ee w3 ⟨rfl, rfl⟩
  rw [HB2.out]
  go_wp2_with (fail)
  refine lpw4.mono ?_
  rintro ee w2 ⟨rfl, hb2⟩
  have Yg := Bx.mono ((Xg.alloc _).alloc _) hb2
  have Yz := Bx.mono ((Xz.alloc _).alloc _) hb2
  have Xo : Bx w2 w1.heap.size 99 #[.int .i64 (omP 0).a, .int .i64 (omP 0).b, .int .i64 (omP 0).c, .int .i64 (omP 0).d, .int .i64 (omP 0).e] := Bx.mono ((Bx.new rfl).alloc _) hb2
  have Xe : Bx w2 (w1.heap.size + 1) 99 #[.int .i64 0, .int .i64 0, .int .i64 0, .int .i64 0, .int .i64 0] := Bx.mono (Bx.new (by simp)) hb2
  have hz2 := hb2.size
  (try simp only [World.size_alloc] at hz2)
  have hw2 : Below w.heap.size w w2 := by (repeat' (first | (with_reducible exact Below.refl _ _) | (with_reducible assumption) | (with_reducible refine Below.alloc ?_ ?_ _) | (with_reducible refine Below.drew ?_) | (with_reducible refine below_drewN ?_ _) | (with_reducible refine Below.setCell ?_ ?_ _) | (with_reducible refine chain ?_ (by assumption) ?_) | omega | (simp; done) | (simp; omega)))
  clear hb2 g0 g1 g2 lg Xg z0 z1 z2 z3 z4 lz Xz fz
  obtain ⟨Xg, Xz⟩ : _ ∧ _ := ⟨Yg, Yz⟩
  clear Yg Yz
  have g0 := Xg.c 0 rfl
  have g1 := Xg.c 1 rfl
  have g2 := Xg.c 2 rfl
  have lg := Xg.lt
  have z0 := Xz.c 0 rfl
  have z1 := Xz.c 1 rfl
  have z2 := Xz.c 2 rfl
  have z3 := Xz.c 3 rfl
  have z4 := Xz.c 4 rfl
  have lz := Xz.lt
  have fz := Xz.f
  have o0 := Xo.c 0 rfl
  have o1 := Xo.c 1 rfl
  have o2 := Xo.c 2 rfl
  have o3 := Xo.c 3 rfl
  have o4 := Xo.c 4 rfl
  have lo := Xo.lt
  have fo := Xo.f
  have e0 := Xe.c 0 rfl
  have e1 := Xe.c 1 rfl
  have e2 := Xe.c 2 rfl
  have e3 := Xe.c 3 rfl
  have e4 := Xe.c 4 rfl
  have le := Xe.lt
  have ne1 : w1.heap.size ≠ w.heap.size + 1 := by omega
  have ne2 : w1.heap.size + 1 ≠ w1.heap.size := by omega
  go_wp2_with (fail)
  refine bodyPost_ret (v := dy 0 0 0 0 0) (by first | (simp [results, Try.results194, go_sem, *]; done) | (simp (disch := (first | omega | (simp; done) | (simp; omega))) [results, Try.results194, go_sem, *]; done) | (simp only [results, Try.results194]; go_simp; done)) rfl ⟨rfl, ?_⟩
  (repeat' (first | (with_reducible exact Below.refl _ _) | (with_reducible assumption) | (with_reducible refine Below.alloc ?_ ?_ _) | (with_reducible refine Below.drew ?_) | (with_reducible refine below_drewN ?_ _) | (with_reducible refine Below.setCell ?_ ?_ _) | (with_reducible refine chain ?_ (by assumption) ?_) | omega | (simp; done) | (simp; omega)))

set_option maxRecDepth 100000 in
set_option maxHeartbeats 4000000 in
theorem lc11_11 {n A B r c : Nat} {w : World} (h5 : n ≤ 5) (hr : r < 2 ^ n) (hc : c < 2 ^ n) (hA : A < n) (hB : B < n) (hbb : bitS n c A = bitS n c B) (h : r = c) :
    Calls Try.prog 194 #[.int .i64 (n : Int), .agg #[.int .i64 11, .int .i64 (A : Int), .int .i64 (B : Int)], .int .i64 (r : Int), .int .i64 (c : Int)] w fun ee w' => ee = .returned (omP 0).v ∧ Below w.heap.size w w' := by
  have hr9 : r < 32 := Nat.lt_of_lt_of_le hr (pow_le h5)
  have hc9 : c < 32 := Nat.lt_of_lt_of_le hc (pow_le h5)
  have hb := hbb
  subst h
  clear hbb
  go_enter Try.func194, Try.ntmps194
  go_wp2_with (fail)
  refine lpw0.mono ?_
  rintro ee w1 ⟨rfl, hb1⟩
  have Xg : Bx w1 (w.heap.size) 150 #[.int .i64 11, .int .i64 (A : Int), .int .i64 (B : Int)] := by (repeat' (first | (with_reducible assumption) | (refine Bx.new (by first | (with_reducible rfl) | (simp; done))) | (with_reducible refine Bx.alloc ?_ _) | (with_reducible refine Bx.drew ?_) | (with_reducible refine Bx.drewN ?_ _) | (with_reducible refine Bx.mono ?_ (by assumption)) | (with_reducible refine Bx.badly ?_ (by assumption) (by omega)) | (with_reducible refine Bx.far ?_ (by (try simp only [World.size_alloc, World.size_drew]); omega)) | (with_reducible refine Bx.set ?_ rfl) | (with_reducible refine Bx.grown ?_ (by assumption) (by assumption))))
  have Xz : Bx w1 (w.heap.size + 1) 99 #[.int .i64 0, .int .i64 0, .int .i64 0, .int .i64 0, .int .i64 0] := by (repeat' (first | (with_reducible assumption) | (refine Bx.new (by first | (with_reducible rfl) | (simp; done))) | (with_reducible refine Bx.alloc ?_ _) | (with_reducible refine Bx.drew ?_) | (with_reducible refine Bx.drewN ?_ _) | (with_reducible refine Bx.mono ?_ (by assumption)) | (with_reducible refine Bx.badly ?_ (by assumption) (by omega)) | (with_reducible refine Bx.far ?_ (by (try simp only [World.size_alloc, World.size_drew]); omega)) | (with_reducible refine Bx.set ?_ rfl) | (with_reducible refine Bx.grown ?_ (by assumption) (by assumption))))
  have hz1 := hb1.size
  (try simp only [World.size_alloc] at hz1)
  have hw1 : Below w.heap.size w w1 := by (repeat' (first | (with_reducible exact Below.refl _ _) | (with_reducible assumption) | (with_reducible refine Below.alloc ?_ ?_ _) | (with_reducible refine Below.drew ?_) | (with_reducible refine below_drewN ?_ _) | (with_reducible refine Below.setCell ?_ ?_ _) | (with_reducible refine chain ?_ (by assumption) ?_) | omega | (simp; done) | (simp; omega)))
  clear hb1
  have g0 := Xg.c 0 rfl
  have g1 := Xg.c 1 rfl
  have g2 := Xg.c 2 rfl
  have lg := Xg.lt
  have z0 := Xz.c 0 rfl
  have z1 := Xz.c 1 rfl
  have z2 := Xz.c 2 rfl
  have z3 := Xz.c 3 rfl
  have z4 := Xz.c 4 rfl
  have lz := Xz.lt
  have fz := Xz.f
  go_upto_region 16 with (fail)
  obtain ⟨W, hW⟩ : ∃ W : World, W = (w1.alloc (.cells #[.int .i64 (omP 0).a, .int .i64 (omP 0).b, .int .i64 (omP 0).c, .int .i64 (omP 0).d, .int .i64 (omP 0).e] 99)).alloc (.cells #[.int .i64 0, .int .i64 0, .int .i64 0, .int .i64 0, .int .i64 0] 99) := ⟨_, rfl⟩
  have hw : Below w.heap.size w W := by rw [hW]; exact (hw1.alloc hw1.size _).alloc (by simp; omega) _
  have Yg := (Xg.alloc (.cells #[.int .i64 (omP 0).a, .int .i64 (omP 0).b, .int .i64 (omP 0).c, .int .i64 (omP 0).d, .int .i64 (omP 0).e] 99)).alloc (.cells #[.int .i64 0, .int .i64 0, .int .i64 0, .int .i64 0, .int .i64 0] 99)
  have Yz := (Xz.alloc (.cells #[.int .i64 (omP 0).a, .int .i64 (omP 0).b, .int .i64 (omP 0).c, .int .i64 (omP 0).d, .int .i64 (omP 0).e] 99)).alloc (.cells #[.int .i64 0, .int .i64 0, .int .i64 0, .int .i64 0, .int .i64 0] 99)
  rw [← hW] at Yg Yz
  have Xo : Bx W w1.heap.size 99 #[.int .i64 (omP 0).a, .int .i64 (omP 0).b, .int .i64 (omP 0).c, .int .i64 (omP 0).d, .int .i64 (omP 0).e] := by rw [hW]; exact (Bx.new rfl).alloc _
  have Xe : Bx W (w1.heap.size + 1) 99 #[.int .i64 0, .int .i64 0, .int .i64 0, .int .i64 0, .int .i64 0] := by rw [hW]; exact Bx.new (by simp)
  have hzW : w1.heap.size + 1 < W.heap.size := by rw [hW]; simp
  rw [← hW]
  clear hW hw1 g0 g1 g2 lg Xg z0 z1 z2 z3 z4 lz Xz fz
  obtain ⟨Xg, Xz⟩ : _ ∧ _ := ⟨Yg, Yz⟩
  clear Yg Yz
  have g0 := Xg.c 0 rfl
  have g1 := Xg.c 1 rfl
  have g2 := Xg.c 2 rfl
  have lg := Xg.lt
  have z0 := Xz.c 0 rfl
  have z1 := Xz.c 1 rfl
  have z2 := Xz.c 2 rfl
  have z3 := Xz.c 3 rfl
  have z4 := Xz.c 4 rfl
  have lz := Xz.lt
  have fz := Xz.f
  have o0 := Xo.c 0 rfl
  have o1 := Xo.c 1 rfl
  have o2 := Xo.c 2 rfl
  have o3 := Xo.c 3 rfl
  have o4 := Xo.c 4 rfl
  have lo := Xo.lt
  have e0 := Xe.c 0 rfl
  have e1 := Xe.c 1 rfl
  have e2 := Xe.c 2 rfl
  have e3 := Xe.c 3 rfl
  have e4 := Xe.c 4 rfl
  have le := Xe.lt
  have yg0 : W.drew.cell? ⟨w.heap.size, 0, none⟩ = some (.int .i64 11) := g0
  have yg1 : W.drew.cell? ⟨w.heap.size, 1, none⟩ = some (.int .i64 (A : Int)) := g1
  have yg2 : W.drew.cell? ⟨w.heap.size, 2, none⟩ = some (.int .i64 (B : Int)) := g2
  refine wp_region_x (fun w' => w'.cell? ⟨w.heap.size, 0, none⟩ = some (.int .i64 11) ∧ w'.cell? ⟨w.heap.size, 1, none⟩ = some (.int .i64 (A : Int)) ∧ w'.cell? ⟨w.heap.size, 2, none⟩ = some (.int .i64 (B : Int))) 1000 (by kernel_rfl) ⟨yg0, yg1, yg2⟩ (fun hS0 => ?_)
  refine wpAnyX_take (i := 0) (oi := _) (v := ?_) rfl (by kernel_rfl) (by kernel_rfl) (by kernel_rfl) (by kernel_rfl) (fun _ _ _ h => h) (Or.inl ⟨by rfl, ?_⟩) hS0 ?_
  rotate_left 1
  · (intro w hSw; (try dsimp only at hSw); go_simp; (try with_reducible rfl))
  try simp only [Act.put, List.setIfInBounds_toArray, List.set_cons_zero, List.set_cons_succ]
  refine wpAnyX_take (i := 1) (oi := _) (v := ?_) rfl (by kernel_rfl) (by kernel_rfl) (by kernel_rfl) (by kernel_rfl) (fun _ _ _ h => h) (Or.inl ⟨by rfl, ?_⟩) hS0 ?_
  rotate_left 1
  · (intro w hSw; (try dsimp only at hSw); go_simp; (try with_reducible rfl))
  try simp only [Act.put, List.setIfInBounds_toArray, List.set_cons_zero, List.set_cons_succ]
  refine wpAnyX_take (i := 2) (oi := _) (v := ?_) rfl (by kernel_rfl) (by kernel_rfl) (by kernel_rfl) (by kernel_rfl) (fun _ _ _ h => h) (Or.inl ⟨by rfl, ?_⟩) hS0 ?_
  rotate_left 1
  · (intro w hSw; (try dsimp only at hSw); go_simp; (try with_reducible rfl))
  try simp only [Act.put, List.setIfInBounds_toArray, List.set_cons_zero, List.set_cons_succ]
  refine wpAnyX_take (i := 3) (oi := _) (v := ?_) rfl (by kernel_rfl) (by kernel_rfl) (by kernel_rfl) (by kernel_rfl) (fun _ _ _ h => h) (Or.inl ⟨by rfl, ?_⟩) hS0 ?_
  rotate_left 1
  · (intro w hSw; (try dsimp only at hSw); go_simp; (try with_reducible rfl))
  try simp only [Act.put, List.setIfInBounds_toArray, List.set_cons_zero, List.set_cons_succ]
  refine wpAnyX_take (i := 5) (oi := _) (v := ?_) rfl (by kernel_rfl) (by kernel_rfl) (by kernel_rfl) (by kernel_rfl) (fun _ _ _ h => h) (Or.inl ⟨by rfl, ?_⟩) hS0 ?_
  rotate_left 1
  · (intro w hSw; (try dsimp only at hSw); go_simp; (try with_reducible rfl))
  try simp only [Act.put, List.setIfInBounds_toArray, List.set_cons_zero, List.set_cons_succ]
  refine wpAnyX_take (i := 6) (oi := _) (v := ?_) rfl (by kernel_rfl) (by kernel_rfl) (by kernel_rfl) (by kernel_rfl) (fun _ _ _ h => h) (Or.inl ⟨by rfl, ?_⟩) hS0 ?_
  rotate_left 1
  · (intro w hSw; (try dsimp only at hSw); go_simp; (try with_reducible rfl))
  try simp only [Act.put, List.setIfInBounds_toArray, List.set_cons_zero, List.set_cons_succ]
  refine wpAnyX_take (i := 7) (oi := _) (v := ?_) rfl (by kernel_rfl) (by kernel_rfl) (by kernel_rfl) (by kernel_rfl) (fun _ _ _ h => h) (Or.inl ⟨by rfl, ?_⟩) hS0 ?_
  rotate_left 1
  · (intro w hSw; (try dsimp only at hSw); go_simp; (try with_reducible rfl))
  try simp only [Act.put, List.setIfInBounds_toArray, List.set_cons_zero, List.set_cons_succ]
  refine wpAnyX_take (i := 8) (oi := _) (v := ?_) rfl (by kernel_rfl) (by kernel_rfl) (by kernel_rfl) (by kernel_rfl) (fun _ _ _ h => h) (Or.inl ⟨by rfl, ?_⟩) hS0 ?_
  rotate_left 1
  · (intro w hSw; (try dsimp only at hSw); go_simp; (try with_reducible rfl))
  try simp only [Act.put, List.setIfInBounds_toArray, List.set_cons_zero, List.set_cons_succ]
  refine wpAnyX_one (i := 4) (o := _) rfl (by kernel_rfl) (fun K hK => ?_)
  go_simp
  refine (lbit h5 hA hc9).mono ?_
  rintro ee v4 ⟨rfl, rfl⟩
  refine hK.out _ _ (fun _ => ?_) (fun hS1 => ?_)
  · exact hS0
  clear hK K
  have hS1 := hS1 (by decide)
  try simp only [Act.put, List.setIfInBounds_toArray, List.set_cons_zero, List.set_cons_succ]
  refine wpAnyX_one (i := 9) (o := _) rfl (by kernel_rfl) (fun K hK => ?_)
  go_simp
  refine (lbit h5 hB hc9).mono ?_
  rintro ee v9 ⟨rfl, rfl⟩
  refine hK.out _ _ (fun _ => ?_) (fun hS2 => ?_)
  · exact hS1
  clear hK K
  have hS2 := hS2 (by decide)
  try simp only [Act.put, List.setIfInBounds_toArray, List.set_cons_zero, List.set_cons_succ]
  refine wpAnyX_take (i := 10) (oi := _) (v := ?_) rfl (by kernel_rfl) (by kernel_rfl) (by kernel_rfl) (by kernel_rfl) (fun _ _ _ h => h) (Or.inl ⟨by rfl, ?_⟩) hS2 ?_
  rotate_left 1
  · (intro w hSw; (try dsimp only at hSw); go_simp; (try with_reducible rfl))
  change wpAnyX _ _ _ _ _ _ _ _ (Act.put _ (some 96) _) _
  try simp only [Act.put, List.setIfInBounds_toArray, List.set_cons_zero, List.set_cons_succ]
  refine wpAnyX_done (by kernel_rfl) ?_ _
  have hw := hw
  go_wp2_with (fail)
  refine bodyPost_ret (v := dy (omP 0).a (omP 0).b (omP 0).c (omP 0).d (omP 0).e) (by first | (simp [results, Try.results194, go_sem, *]; done) | (simp (disch := (first | omega | (simp; done) | (simp; omega))) [results, Try.results194, go_sem, *]; done) | (simp only [results, Try.results194]; go_simp; done)) rfl ⟨rfl, ?_⟩
  (repeat' (first | (with_reducible exact Below.refl _ _) | (with_reducible assumption) | (with_reducible refine Below.alloc ?_ ?_ _) | (with_reducible refine Below.drew ?_) | (with_reducible refine below_drewN ?_ _) | (with_reducible refine Below.setCell ?_ ?_ _) | (with_reducible refine chain ?_ (by assumption) ?_) | omega | (simp; done) | (simp; omega)))

set_option maxRecDepth 100000 in
set_option maxHeartbeats 4000000 in
theorem lc11_10 {n A B r c : Nat} {w : World} (h5 : n ≤ 5) (hr : r < 2 ^ n) (hc : c < 2 ^ n) (hA : A < n) (hB : B < n) (hbb : bitS n c A = bitS n c B) (h : ¬ r = c) :
    Calls Try.prog 194 #[.int .i64 (n : Int), .agg #[.int .i64 11, .int .i64 (A : Int), .int .i64 (B : Int)], .int .i64 (r : Int), .int .i64 (c : Int)] w fun ee w' => ee = .returned (z5).v ∧ Below w.heap.size w w' := by
  have hr9 : r < 32 := Nat.lt_of_lt_of_le hr (pow_le h5)
  have hc9 : c < 32 := Nat.lt_of_lt_of_le hc (pow_le h5)
  have hb := hbb
  obtain ⟨k1, k2, k3⟩ := ne32 h
  clear h
  clear hbb
  go_enter Try.func194, Try.ntmps194
  go_wp2_with (fail)
  refine lpw0.mono ?_
  rintro ee w1 ⟨rfl, hb1⟩
  have Xg : Bx w1 (w.heap.size) 150 #[.int .i64 11, .int .i64 (A : Int), .int .i64 (B : Int)] := by (repeat' (first | (with_reducible assumption) | (refine Bx.new (by first | (with_reducible rfl) | (simp; done))) | (with_reducible refine Bx.alloc ?_ _) | (with_reducible refine Bx.drew ?_) | (with_reducible refine Bx.drewN ?_ _) | (with_reducible refine Bx.mono ?_ (by assumption)) | (with_reducible refine Bx.badly ?_ (by assumption) (by omega)) | (with_reducible refine Bx.far ?_ (by (try simp only [World.size_alloc, World.size_drew]); omega)) | (with_reducible refine Bx.set ?_ rfl) | (with_reducible refine Bx.grown ?_ (by assumption) (by assumption))))
  have Xz : Bx w1 (w.heap.size + 1) 99 #[.int .i64 0, .int .i64 0, .int .i64 0, .int .i64 0, .int .i64 0] := by (repeat' (first | (with_reducible assumption) | (refine Bx.new (by first | (with_reducible rfl) | (simp; done))) | (with_reducible refine Bx.alloc ?_ _) | (with_reducible refine Bx.drew ?_) | (with_reducible refine Bx.drewN ?_ _) | (with_reducible refine Bx.mono ?_ (by assumption)) | (with_reducible refine Bx.badly ?_ (by assumption) (by omega)) | (with_reducible refine Bx.far ?_ (by (try simp only [World.size_alloc, World.size_drew]); omega)) | (with_reducible refine Bx.set ?_ rfl) | (with_reducible refine Bx.grown ?_ (by assumption) (by assumption))))
  have hz1 := hb1.size
  (try simp only [World.size_alloc] at hz1)
  have hw1 : Below w.heap.size w w1 := by (repeat' (first | (with_reducible exact Below.refl _ _) | (with_reducible assumption) | (with_reducible refine Below.alloc ?_ ?_ _) | (with_reducible refine Below.drew ?_) | (with_reducible refine below_drewN ?_ _) | (with_reducible refine Below.setCell ?_ ?_ _) | (with_reducible refine chain ?_ (by assumption) ?_) | omega | (simp; done) | (simp; omega)))
  clear hb1
  have g0 := Xg.c 0 rfl
  have g1 := Xg.c 1 rfl
  have g2 := Xg.c 2 rfl
  have lg := Xg.lt
  have z0 := Xz.c 0 rfl
  have z1 := Xz.c 1 rfl
  have z2 := Xz.c 2 rfl
  have z3 := Xz.c 3 rfl
  have z4 := Xz.c 4 rfl
  have lz := Xz.lt
  have fz := Xz.f
  go_upto_region 16 with (fail)
  obtain ⟨W, hW⟩ : ∃ W : World, W = (w1.alloc (.cells #[.int .i64 (omP 0).a, .int .i64 (omP 0).b, .int .i64 (omP 0).c, .int .i64 (omP 0).d, .int .i64 (omP 0).e] 99)).alloc (.cells #[.int .i64 0, .int .i64 0, .int .i64 0, .int .i64 0, .int .i64 0] 99) := ⟨_, rfl⟩
  have hw : Below w.heap.size w W := by rw [hW]; exact (hw1.alloc hw1.size _).alloc (by simp; omega) _
  have Yg := (Xg.alloc (.cells #[.int .i64 (omP 0).a, .int .i64 (omP 0).b, .int .i64 (omP 0).c, .int .i64 (omP 0).d, .int .i64 (omP 0).e] 99)).alloc (.cells #[.int .i64 0, .int .i64 0, .int .i64 0, .int .i64 0, .int .i64 0] 99)
  have Yz := (Xz.alloc (.cells #[.int .i64 (omP 0).a, .int .i64 (omP 0).b, .int .i64 (omP 0).c, .int .i64 (omP 0).d, .int .i64 (omP 0).e] 99)).alloc (.cells #[.int .i64 0, .int .i64 0, .int .i64 0, .int .i64 0, .int .i64 0] 99)
  rw [← hW] at Yg Yz
  have Xo : Bx W w1.heap.size 99 #[.int .i64 (omP 0).a, .int .i64 (omP 0).b, .int .i64 (omP 0).c, .int .i64 (omP 0).d, .int .i64 (omP 0).e] := by rw [hW]; exact (Bx.new rfl).alloc _
  have Xe : Bx W (w1.heap.size + 1) 99 #[.int .i64 0, .int .i64 0, .int .i64 0, .int .i64 0, .int .i64 0] := by rw [hW]; exact Bx.new (by simp)
  have hzW : w1.heap.size + 1 < W.heap.size := by rw [hW]; simp
  rw [← hW]
  clear hW hw1 g0 g1 g2 lg Xg z0 z1 z2 z3 z4 lz Xz fz
  obtain ⟨Xg, Xz⟩ : _ ∧ _ := ⟨Yg, Yz⟩
  clear Yg Yz
  have g0 := Xg.c 0 rfl
  have g1 := Xg.c 1 rfl
  have g2 := Xg.c 2 rfl
  have lg := Xg.lt
  have z0 := Xz.c 0 rfl
  have z1 := Xz.c 1 rfl
  have z2 := Xz.c 2 rfl
  have z3 := Xz.c 3 rfl
  have z4 := Xz.c 4 rfl
  have lz := Xz.lt
  have fz := Xz.f
  have o0 := Xo.c 0 rfl
  have o1 := Xo.c 1 rfl
  have o2 := Xo.c 2 rfl
  have o3 := Xo.c 3 rfl
  have o4 := Xo.c 4 rfl
  have lo := Xo.lt
  have e0 := Xe.c 0 rfl
  have e1 := Xe.c 1 rfl
  have e2 := Xe.c 2 rfl
  have e3 := Xe.c 3 rfl
  have e4 := Xe.c 4 rfl
  have le := Xe.lt
  have yg0 : W.drew.cell? ⟨w.heap.size, 0, none⟩ = some (.int .i64 11) := g0
  have yg1 : W.drew.cell? ⟨w.heap.size, 1, none⟩ = some (.int .i64 (A : Int)) := g1
  have yg2 : W.drew.cell? ⟨w.heap.size, 2, none⟩ = some (.int .i64 (B : Int)) := g2
  refine wp_region_x (fun w' => w'.cell? ⟨w.heap.size, 0, none⟩ = some (.int .i64 11) ∧ w'.cell? ⟨w.heap.size, 1, none⟩ = some (.int .i64 (A : Int)) ∧ w'.cell? ⟨w.heap.size, 2, none⟩ = some (.int .i64 (B : Int))) 1000 (by kernel_rfl) ⟨yg0, yg1, yg2⟩ (fun hS0 => ?_)
  refine wpAnyX_take (i := 0) (oi := _) (v := ?_) rfl (by kernel_rfl) (by kernel_rfl) (by kernel_rfl) (by kernel_rfl) (fun _ _ _ h => h) (Or.inl ⟨by rfl, ?_⟩) hS0 ?_
  rotate_left 1
  · (intro w hSw; (try dsimp only at hSw); go_simp; (try with_reducible rfl))
  try simp only [Act.put, List.setIfInBounds_toArray, List.set_cons_zero, List.set_cons_succ]
  refine wpAnyX_take (i := 1) (oi := _) (v := ?_) rfl (by kernel_rfl) (by kernel_rfl) (by kernel_rfl) (by kernel_rfl) (fun _ _ _ h => h) (Or.inl ⟨by rfl, ?_⟩) hS0 ?_
  rotate_left 1
  · (intro w hSw; (try dsimp only at hSw); go_simp; (try with_reducible rfl))
  try simp only [Act.put, List.setIfInBounds_toArray, List.set_cons_zero, List.set_cons_succ]
  refine wpAnyX_take (i := 2) (oi := _) (v := ?_) rfl (by kernel_rfl) (by kernel_rfl) (by kernel_rfl) (by kernel_rfl) (fun _ _ _ h => h) (Or.inl ⟨by rfl, ?_⟩) hS0 ?_
  rotate_left 1
  · (intro w hSw; (try dsimp only at hSw); go_simp; (try with_reducible rfl))
  try simp only [Act.put, List.setIfInBounds_toArray, List.set_cons_zero, List.set_cons_succ]
  refine wpAnyX_take (i := 3) (oi := _) (v := ?_) rfl (by kernel_rfl) (by kernel_rfl) (by kernel_rfl) (by kernel_rfl) (fun _ _ _ h => h) (Or.inl ⟨by rfl, ?_⟩) hS0 ?_
  rotate_left 1
  · (intro w hSw; (try dsimp only at hSw); go_simp; (try with_reducible rfl))
  try simp only [Act.put, List.setIfInBounds_toArray, List.set_cons_zero, List.set_cons_succ]
  refine wpAnyX_take (i := 5) (oi := _) (v := ?_) rfl (by kernel_rfl) (by kernel_rfl) (by kernel_rfl) (by kernel_rfl) (fun _ _ _ h => h) (Or.inl ⟨by rfl, ?_⟩) hS0 ?_
  rotate_left 1
  · (intro w hSw; (try dsimp only at hSw); go_simp; (try with_reducible rfl))
  try simp only [Act.put, List.setIfInBounds_toArray, List.set_cons_zero, List.set_cons_succ]
  refine wpAnyX_take (i := 6) (oi := _) (v := ?_) rfl (by kernel_rfl) (by kernel_rfl) (by kernel_rfl) (by kernel_rfl) (fun _ _ _ h => h) (Or.inl ⟨by rfl, ?_⟩) hS0 ?_
  rotate_left 1
  · (intro w hSw; (try dsimp only at hSw); go_simp; (try with_reducible rfl))
  try simp only [Act.put, List.setIfInBounds_toArray, List.set_cons_zero, List.set_cons_succ]
  refine wpAnyX_take (i := 7) (oi := _) (v := ?_) rfl (by kernel_rfl) (by kernel_rfl) (by kernel_rfl) (by kernel_rfl) (fun _ _ _ h => h) (Or.inl ⟨by rfl, ?_⟩) hS0 ?_
  rotate_left 1
  · (intro w hSw; (try dsimp only at hSw); go_simp; (try with_reducible rfl))
  try simp only [Act.put, List.setIfInBounds_toArray, List.set_cons_zero, List.set_cons_succ]
  refine wpAnyX_take (i := 8) (oi := _) (v := ?_) rfl (by kernel_rfl) (by kernel_rfl) (by kernel_rfl) (by kernel_rfl) (fun _ _ _ h => h) (Or.inl ⟨by rfl, ?_⟩) hS0 ?_
  rotate_left 1
  · (intro w hSw; (try dsimp only at hSw); go_simp; (try with_reducible rfl))
  try simp only [Act.put, List.setIfInBounds_toArray, List.set_cons_zero, List.set_cons_succ]
  refine wpAnyX_one (i := 4) (o := _) rfl (by kernel_rfl) (fun K hK => ?_)
  go_simp
  refine (lbit h5 hA hc9).mono ?_
  rintro ee v4 ⟨rfl, rfl⟩
  refine hK.out _ _ (fun _ => ?_) (fun hS1 => ?_)
  · exact hS0
  clear hK K
  have hS1 := hS1 (by decide)
  try simp only [Act.put, List.setIfInBounds_toArray, List.set_cons_zero, List.set_cons_succ]
  refine wpAnyX_one (i := 9) (o := _) rfl (by kernel_rfl) (fun K hK => ?_)
  go_simp
  refine (lbit h5 hB hc9).mono ?_
  rintro ee v9 ⟨rfl, rfl⟩
  refine hK.out _ _ (fun _ => ?_) (fun hS2 => ?_)
  · exact hS1
  clear hK K
  have hS2 := hS2 (by decide)
  try simp only [Act.put, List.setIfInBounds_toArray, List.set_cons_zero, List.set_cons_succ]
  refine wpAnyX_take (i := 10) (oi := _) (v := ?_) rfl (by kernel_rfl) (by kernel_rfl) (by kernel_rfl) (by kernel_rfl) (fun _ _ _ h => h) (Or.inl ⟨by rfl, ?_⟩) hS2 ?_
  rotate_left 1
  · (intro w hSw; (try dsimp only at hSw); go_simp; (try with_reducible rfl))
  change wpAnyX _ _ _ _ _ _ _ _ (Act.put _ (some 96) _) _
  try simp only [Act.put, List.setIfInBounds_toArray, List.set_cons_zero, List.set_cons_succ]
  refine wpAnyX_done (by kernel_rfl) ?_ _
  have hw := hw
  go_wp2_with (fail)
  refine bodyPost_ret (v := dy 0 0 0 0 0) (by first | (simp [results, Try.results194, go_sem, *]; done) | (simp (disch := (first | omega | (simp; done) | (simp; omega))) [results, Try.results194, go_sem, *]; done) | (simp only [results, Try.results194]; go_simp; done)) rfl ⟨rfl, ?_⟩
  (repeat' (first | (with_reducible exact Below.refl _ _) | (with_reducible assumption) | (with_reducible refine Below.alloc ?_ ?_ _) | (with_reducible refine Below.drew ?_) | (with_reducible refine below_drewN ?_ _) | (with_reducible refine Below.setCell ?_ ?_ _) | (with_reducible refine chain ?_ (by assumption) ?_) | omega | (simp; done) | (simp; omega)))

set_option maxRecDepth 100000 in
set_option maxHeartbeats 4000000 in
theorem lc11_01 {n A B r c : Nat} {w : World} (h5 : n ≤ 5) (hr : r < 2 ^ n) (hc : c < 2 ^ n) (hA : A < n) (hB : B < n) (hbb : ¬ bitS n c A = bitS n c B) (h : r = c ^^^ msk n A ^^^ msk n B) :
    Calls Try.prog 194 #[.int .i64 (n : Int), .agg #[.int .i64 11, .int .i64 (A : Int), .int .i64 (B : Int)], .int .i64 (r : Int), .int .i64 (c : Int)] w fun ee w' => ee = .returned (omP 0).v ∧ Below w.heap.size w w' := by
  have hr9 : r < 32 := Nat.lt_of_lt_of_le hr (pow_le h5)
  have hc9 : c < 32 := Nat.lt_of_lt_of_le hc (pow_le h5)
  obtain ⟨b1, b2, b3⟩ := ne32 hbb
  have hsA := shl_w h5 hA
  have hmA : (A : Int) + 1 ≤ n := by omega
  have hpA : 0 ≤ (n : Int) - 1 - (A : Int) := by omega
  have hsB := shl_w h5 hB
  have hmB : (B : Int) + 1 ≤ n := by omega
  have hpB : 0 ≤ (n : Int) - 1 - (B : Int) := by omega
  have h4 : (n : Int) ≤ 5 := by omega
  have hx := bxor hc9 (msk32 h5 hA)
  have hx2 := bxor (Nat.lt_of_lt_of_le (flip_lt hc hA) (pow_le h5)) (msk32 h5 hB)
  obtain ⟨t1, ht1⟩ : ∃ t1 : Nat, t1 = c ^^^ msk n A := ⟨_, rfl⟩
  obtain ⟨tt, hto⟩ : ∃ tt : Nat, tt = c ^^^ msk n A ^^^ msk n B := ⟨_, rfl⟩
  rw [← hto] at hx2 h
  rw [← ht1] at hx hx2
  clear hto ht1
  subst h
  clear hbb
  go_enter Try.func194, Try.ntmps194
  go_wp2_with (fail)
  refine lpw0.mono ?_
  rintro ee w1 ⟨rfl, hb1⟩
  have Xg : Bx w1 (w.heap.size) 150 #[.int .i64 11, .int .i64 (A : Int), .int .i64 (B : Int)] := by (repeat' (first | (with_reducible assumption) | (refine Bx.new (by first | (with_reducible rfl) | (simp; done))) | (with_reducible refine Bx.alloc ?_ _) | (with_reducible refine Bx.drew ?_) | (with_reducible refine Bx.drewN ?_ _) | (with_reducible refine Bx.mono ?_ (by assumption)) | (with_reducible refine Bx.badly ?_ (by assumption) (by omega)) | (with_reducible refine Bx.far ?_ (by (try simp only [World.size_alloc, World.size_drew]); omega)) | (with_reducible refine Bx.set ?_ rfl) | (with_reducible refine Bx.grown ?_ (by assumption) (by assumption))))
  have Xz : Bx w1 (w.heap.size + 1) 99 #[.int .i64 0, .int .i64 0, .int .i64 0, .int .i64 0, .int .i64 0] := by (repeat' (first | (with_reducible assumption) | (refine Bx.new (by first | (with_reducible rfl) | (simp; done))) | (with_reducible refine Bx.alloc ?_ _) | (with_reducible refine Bx.drew ?_) | (with_reducible refine Bx.drewN ?_ _) | (with_reducible refine Bx.mono ?_ (by assumption)) | (with_reducible refine Bx.badly ?_ (by assumption) (by omega)) | (with_reducible refine Bx.far ?_ (by (try simp only [World.size_alloc, World.size_drew]); omega)) | (with_reducible refine Bx.set ?_ rfl) | (with_reducible refine Bx.grown ?_ (by assumption) (by assumption))))
  have hz1 := hb1.size
  (try simp only [World.size_alloc] at hz1)
  have hw1 : Below w.heap.size w w1 := by (repeat' (first | (with_reducible exact Below.refl _ _) | (with_reducible assumption) | (with_reducible refine Below.alloc ?_ ?_ _) | (with_reducible refine Below.drew ?_) | (with_reducible refine below_drewN ?_ _) | (with_reducible refine Below.setCell ?_ ?_ _) | (with_reducible refine chain ?_ (by assumption) ?_) | omega | (simp; done) | (simp; omega)))
  clear hb1
  have g0 := Xg.c 0 rfl
  have g1 := Xg.c 1 rfl
  have g2 := Xg.c 2 rfl
  have lg := Xg.lt
  have z0 := Xz.c 0 rfl
  have z1 := Xz.c 1 rfl
  have z2 := Xz.c 2 rfl
  have z3 := Xz.c 3 rfl
  have z4 := Xz.c 4 rfl
  have lz := Xz.lt
  have fz := Xz.f
  go_upto_region 16 with (fail)
  obtain ⟨W, hW⟩ : ∃ W : World, W = (w1.alloc (.cells #[.int .i64 (omP 0).a, .int .i64 (omP 0).b, .int .i64 (omP 0).c, .int .i64 (omP 0).d, .int .i64 (omP 0).e] 99)).alloc (.cells #[.int .i64 0, .int .i64 0, .int .i64 0, .int .i64 0, .int .i64 0] 99) := ⟨_, rfl⟩
  have hw : Below w.heap.size w W := by rw [hW]; exact (hw1.alloc hw1.size _).alloc (by simp; omega) _
  have Yg := (Xg.alloc (.cells #[.int .i64 (omP 0).a, .int .i64 (omP 0).b, .int .i64 (omP 0).c, .int .i64 (omP 0).d, .int .i64 (omP 0).e] 99)).alloc (.cells #[.int .i64 0, .int .i64 0, .int .i64 0, .int .i64 0, .int .i64 0] 99)
  have Yz := (Xz.alloc (.cells #[.int .i64 (omP 0).a, .int .i64 (omP 0).b, .int .i64 (omP 0).c, .int .i64 (omP 0).d, .int .i64 (omP 0).e] 99)).alloc (.cells #[.int .i64 0, .int .i64 0, .int .i64 0, .int .i64 0, .int .i64 0] 99)
  rw [← hW] at Yg Yz
  have Xo : Bx W w1.heap.size 99 #[.int .i64 (omP 0).a, .int .i64 (omP 0).b, .int .i64 (omP 0).c, .int .i64 (omP 0).d, .int .i64 (omP 0).e] := by rw [hW]; exact (Bx.new rfl).alloc _
  have Xe : Bx W (w1.heap.size + 1) 99 #[.int .i64 0, .int .i64 0, .int .i64 0, .int .i64 0, .int .i64 0] := by rw [hW]; exact Bx.new (by simp)
  have hzW : w1.heap.size + 1 < W.heap.size := by rw [hW]; simp
  rw [← hW]
  clear hW hw1 g0 g1 g2 lg Xg z0 z1 z2 z3 z4 lz Xz fz
  obtain ⟨Xg, Xz⟩ : _ ∧ _ := ⟨Yg, Yz⟩
  clear Yg Yz
  have g0 := Xg.c 0 rfl
  have g1 := Xg.c 1 rfl
  have g2 := Xg.c 2 rfl
  have lg := Xg.lt
  have z0 := Xz.c 0 rfl
  have z1 := Xz.c 1 rfl
  have z2 := Xz.c 2 rfl
  have z3 := Xz.c 3 rfl
  have z4 := Xz.c 4 rfl
  have lz := Xz.lt
  have fz := Xz.f
  have o0 := Xo.c 0 rfl
  have o1 := Xo.c 1 rfl
  have o2 := Xo.c 2 rfl
  have o3 := Xo.c 3 rfl
  have o4 := Xo.c 4 rfl
  have lo := Xo.lt
  have e0 := Xe.c 0 rfl
  have e1 := Xe.c 1 rfl
  have e2 := Xe.c 2 rfl
  have e3 := Xe.c 3 rfl
  have e4 := Xe.c 4 rfl
  have le := Xe.lt
  have yg0 : W.drew.cell? ⟨w.heap.size, 0, none⟩ = some (.int .i64 11) := g0
  have yg1 : W.drew.cell? ⟨w.heap.size, 1, none⟩ = some (.int .i64 (A : Int)) := g1
  have yg2 : W.drew.cell? ⟨w.heap.size, 2, none⟩ = some (.int .i64 (B : Int)) := g2
  refine wp_region_x (fun w' => w'.cell? ⟨w.heap.size, 0, none⟩ = some (.int .i64 11) ∧ w'.cell? ⟨w.heap.size, 1, none⟩ = some (.int .i64 (A : Int)) ∧ w'.cell? ⟨w.heap.size, 2, none⟩ = some (.int .i64 (B : Int))) 1000 (by kernel_rfl) ⟨yg0, yg1, yg2⟩ (fun hS0 => ?_)
  refine wpAnyX_take (i := 0) (oi := _) (v := ?_) rfl (by kernel_rfl) (by kernel_rfl) (by kernel_rfl) (by kernel_rfl) (fun _ _ _ h => h) (Or.inl ⟨by rfl, ?_⟩) hS0 ?_
  rotate_left 1
  · (intro w hSw; (try dsimp only at hSw); go_simp; (try with_reducible rfl))
  try simp only [Act.put, List.setIfInBounds_toArray, List.set_cons_zero, List.set_cons_succ]
  refine wpAnyX_take (i := 1) (oi := _) (v := ?_) rfl (by kernel_rfl) (by kernel_rfl) (by kernel_rfl) (by kernel_rfl) (fun _ _ _ h => h) (Or.inl ⟨by rfl, ?_⟩) hS0 ?_
  rotate_left 1
  · (intro w hSw; (try dsimp only at hSw); go_simp; (try with_reducible rfl))
  try simp only [Act.put, List.setIfInBounds_toArray, List.set_cons_zero, List.set_cons_succ]
  refine wpAnyX_take (i := 2) (oi := _) (v := ?_) rfl (by kernel_rfl) (by kernel_rfl) (by kernel_rfl) (by kernel_rfl) (fun _ _ _ h => h) (Or.inl ⟨by rfl, ?_⟩) hS0 ?_
  rotate_left 1
  · (intro w hSw; (try dsimp only at hSw); go_simp; (try with_reducible rfl))
  try simp only [Act.put, List.setIfInBounds_toArray, List.set_cons_zero, List.set_cons_succ]
  refine wpAnyX_take (i := 3) (oi := _) (v := ?_) rfl (by kernel_rfl) (by kernel_rfl) (by kernel_rfl) (by kernel_rfl) (fun _ _ _ h => h) (Or.inl ⟨by rfl, ?_⟩) hS0 ?_
  rotate_left 1
  · (intro w hSw; (try dsimp only at hSw); go_simp; (try with_reducible rfl))
  try simp only [Act.put, List.setIfInBounds_toArray, List.set_cons_zero, List.set_cons_succ]
  refine wpAnyX_take (i := 5) (oi := _) (v := ?_) rfl (by kernel_rfl) (by kernel_rfl) (by kernel_rfl) (by kernel_rfl) (fun _ _ _ h => h) (Or.inl ⟨by rfl, ?_⟩) hS0 ?_
  rotate_left 1
  · (intro w hSw; (try dsimp only at hSw); go_simp; (try with_reducible rfl))
  try simp only [Act.put, List.setIfInBounds_toArray, List.set_cons_zero, List.set_cons_succ]
  refine wpAnyX_take (i := 6) (oi := _) (v := ?_) rfl (by kernel_rfl) (by kernel_rfl) (by kernel_rfl) (by kernel_rfl) (fun _ _ _ h => h) (Or.inl ⟨by rfl, ?_⟩) hS0 ?_
  rotate_left 1
  · (intro w hSw; (try dsimp only at hSw); go_simp; (try with_reducible rfl))
  try simp only [Act.put, List.setIfInBounds_toArray, List.set_cons_zero, List.set_cons_succ]
  refine wpAnyX_take (i := 7) (oi := _) (v := ?_) rfl (by kernel_rfl) (by kernel_rfl) (by kernel_rfl) (by kernel_rfl) (fun _ _ _ h => h) (Or.inl ⟨by rfl, ?_⟩) hS0 ?_
  rotate_left 1
  · (intro w hSw; (try dsimp only at hSw); go_simp; (try with_reducible rfl))
  try simp only [Act.put, List.setIfInBounds_toArray, List.set_cons_zero, List.set_cons_succ]
  refine wpAnyX_take (i := 8) (oi := _) (v := ?_) rfl (by kernel_rfl) (by kernel_rfl) (by kernel_rfl) (by kernel_rfl) (fun _ _ _ h => h) (Or.inl ⟨by rfl, ?_⟩) hS0 ?_
  rotate_left 1
  · (intro w hSw; (try dsimp only at hSw); go_simp; (try with_reducible rfl))
  try simp only [Act.put, List.setIfInBounds_toArray, List.set_cons_zero, List.set_cons_succ]
  refine wpAnyX_one (i := 4) (o := _) rfl (by kernel_rfl) (fun K hK => ?_)
  go_simp
  refine (lbit h5 hA hc9).mono ?_
  rintro ee v4 ⟨rfl, rfl⟩
  refine hK.out _ _ (fun _ => ?_) (fun hS1 => ?_)
  · exact hS0
  clear hK K
  have hS1 := hS1 (by decide)
  try simp only [Act.put, List.setIfInBounds_toArray, List.set_cons_zero, List.set_cons_succ]
  refine wpAnyX_one (i := 9) (o := _) rfl (by kernel_rfl) (fun K hK => ?_)
  go_simp
  refine (lbit h5 hB hc9).mono ?_
  rintro ee v9 ⟨rfl, rfl⟩
  refine hK.out _ _ (fun _ => ?_) (fun hS2 => ?_)
  · exact hS1
  clear hK K
  have hS2 := hS2 (by decide)
  try simp only [Act.put, List.setIfInBounds_toArray, List.set_cons_zero, List.set_cons_succ]
  refine wpAnyX_take (i := 10) (oi := _) (v := ?_) rfl (by kernel_rfl) (by kernel_rfl) (by kernel_rfl) (by kernel_rfl) (fun _ _ _ h => h) (Or.inl ⟨by rfl, ?_⟩) hS2 ?_
  rotate_left 1
  · (intro w hSw; (try dsimp only at hSw); go_simp; (try with_reducible rfl))
  change wpAnyX _ _ _ _ _ _ _ _ (Act.put _ (some 96) _) _
  try simp only [Act.put, List.setIfInBounds_toArray, List.set_cons_zero, List.set_cons_succ]
  refine wpAnyX_done (by kernel_rfl) ?_ _
  have hw := hw
  go_wp2_with (fail)
  refine bodyPost_ret (v := dy (omP 0).a (omP 0).b (omP 0).c (omP 0).d (omP 0).e) (by first | (simp [results, Try.results194, go_sem, *]; done) | (simp (disch := (first | omega | (simp; done) | (simp; omega))) [results, Try.results194, go_sem, *]; done) | (simp only [results, Try.results194]; go_simp; done)) rfl ⟨rfl, ?_⟩
  (repeat' (first | (with_reducible exact Below.refl _ _) | (with_reducible assumption) | (with_reducible refine Below.alloc ?_ ?_ _) | (with_reducible refine Below.drew ?_) | (with_reducible refine below_drewN ?_ _) | (with_reducible refine Below.setCell ?_ ?_ _) | (with_reducible refine chain ?_ (by assumption) ?_) | omega | (simp; done) | (simp; omega)))

set_option maxRecDepth 100000 in
set_option maxHeartbeats 4000000 in
theorem lc11_00 {n A B r c : Nat} {w : World} (h5 : n ≤ 5) (hr : r < 2 ^ n) (hc : c < 2 ^ n) (hA : A < n) (hB : B < n) (hbb : ¬ bitS n c A = bitS n c B) (h : ¬ r = c ^^^ msk n A ^^^ msk n B) :
    Calls Try.prog 194 #[.int .i64 (n : Int), .agg #[.int .i64 11, .int .i64 (A : Int), .int .i64 (B : Int)], .int .i64 (r : Int), .int .i64 (c : Int)] w fun ee w' => ee = .returned (z5).v ∧ Below w.heap.size w w' := by
  have hr9 : r < 32 := Nat.lt_of_lt_of_le hr (pow_le h5)
  have hc9 : c < 32 := Nat.lt_of_lt_of_le hc (pow_le h5)
  obtain ⟨b1, b2, b3⟩ := ne32 hbb
  have hsA := shl_w h5 hA
  have hmA : (A : Int) + 1 ≤ n := by omega
  have hpA : 0 ≤ (n : Int) - 1 - (A : Int) := by omega
  have hsB := shl_w h5 hB
  have hmB : (B : Int) + 1 ≤ n := by omega
  have hpB : 0 ≤ (n : Int) - 1 - (B : Int) := by omega
  have h4 : (n : Int) ≤ 5 := by omega
  have hx := bxor hc9 (msk32 h5 hA)
  have hx2 := bxor (Nat.lt_of_lt_of_le (flip_lt hc hA) (pow_le h5)) (msk32 h5 hB)
  obtain ⟨t1, ht1⟩ : ∃ t1 : Nat, t1 = c ^^^ msk n A := ⟨_, rfl⟩
  obtain ⟨tt, hto⟩ : ∃ tt : Nat, tt = c ^^^ msk n A ^^^ msk n B := ⟨_, rfl⟩
  rw [← hto] at hx2 h
  rw [← ht1] at hx hx2
  clear hto ht1
  obtain ⟨k1, k2, k3⟩ := ne32 h
  clear h
  clear hbb
  go_enter Try.func194, Try.ntmps194
  go_wp2_with (fail)
  refine lpw0.mono ?_
  rintro ee w1 ⟨rfl, hb1⟩
  have Xg : Bx w1 (w.heap.size) 150 #[.int .i64 11, .int .i64 (A : Int), .int .i64 (B : Int)] := by (repeat' (first | (with_reducible assumption) | (refine Bx.new (by first | (with_reducible rfl) | (simp; done))) | (with_reducible refine Bx.alloc ?_ _) | (with_reducible refine Bx.drew ?_) | (with_reducible refine Bx.drewN ?_ _) | (with_reducible refine Bx.mono ?_ (by assumption)) | (with_reducible refine Bx.badly ?_ (by assumption) (by omega)) | (with_reducible refine Bx.far ?_ (by (try simp only [World.size_alloc, World.size_drew]); omega)) | (with_reducible refine Bx.set ?_ rfl) | (with_reducible refine Bx.grown ?_ (by assumption) (by assumption))))
  have Xz : Bx w1 (w.heap.size + 1) 99 #[.int .i64 0, .int .i64 0, .int .i64 0, .int .i64 0, .int .i64 0] := by (repeat' (first | (with_reducible assumption) | (refine Bx.new (by first | (with_reducible rfl) | (simp; done))) | (with_reducible refine Bx.alloc ?_ _) | (with_reducible refine Bx.drew ?_) | (with_reducible refine Bx.drewN ?_ _) | (with_reducible refine Bx.mono ?_ (by assumption)) | (with_reducible refine Bx.badly ?_ (by assumption) (by omega)) | (with_reducible refine Bx.far ?_ (by (try simp only [World.size_alloc, World.size_drew]); omega)) | (with_reducible refine Bx.set ?_ rfl) | (with_reducible refine Bx.grown ?_ (by assumption) (by assumption))))
  have hz1 := hb1.size
  (try simp only [World.size_alloc] at hz1)
  have hw1 : Below w.heap.size w w1 := by (repeat' (first | (with_reducible exact Below.refl _ _) | (with_reducible assumption) | (with_reducible refine Below.alloc ?_ ?_ _) | (with_reducible refine Below.drew ?_) | (with_reducible refine below_drewN ?_ _) | (with_reducible refine Below.setCell ?_ ?_ _) | (with_reducible refine chain ?_ (by assumption) ?_) | omega | (simp; done) | (simp; omega)))
  clear hb1
  have g0 := Xg.c 0 rfl
  have g1 := Xg.c 1 rfl
  have g2 := Xg.c 2 rfl
  have lg := Xg.lt
  have z0 := Xz.c 0 rfl
  have z1 := Xz.c 1 rfl
  have z2 := Xz.c 2 rfl
  have z3 := Xz.c 3 rfl
  have z4 := Xz.c 4 rfl
  have lz := Xz.lt
  have fz := Xz.f
  go_upto_region 16 with (fail)
  obtain ⟨W, hW⟩ : ∃ W : World, W = (w1.alloc (.cells #[.int .i64 (omP 0).a, .int .i64 (omP 0).b, .int .i64 (omP 0).c, .int .i64 (omP 0).d, .int .i64 (omP 0).e] 99)).alloc (.cells #[.int .i64 0, .int .i64 0, .int .i64 0, .int .i64 0, .int .i64 0] 99) := ⟨_, rfl⟩
  have hw : Below w.heap.size w W := by rw [hW]; exact (hw1.alloc hw1.size _).alloc (by simp; omega) _
  have Yg := (Xg.alloc (.cells #[.int .i64 (omP 0).a, .int .i64 (omP 0).b, .int .i64 (omP 0).c, .int .i64 (omP 0).d, .int .i64 (omP 0).e] 99)).alloc (.cells #[.int .i64 0, .int .i64 0, .int .i64 0, .int .i64 0, .int .i64 0] 99)
  have Yz := (Xz.alloc (.cells #[.int .i64 (omP 0).a, .int .i64 (omP 0).b, .int .i64 (omP 0).c, .int .i64 (omP 0).d, .int .i64 (omP 0).e] 99)).alloc (.cells #[.int .i64 0, .int .i64 0, .int .i64 0, .int .i64 0, .int .i64 0] 99)
  rw [← hW] at Yg Yz
  have Xo : Bx W w1.heap.size 99 #[.int .i64 (omP 0).a, .int .i64 (omP 0).b, .int .i64 (omP 0).c, .int .i64 (omP 0).d, .int .i64 (omP 0).e] := by rw [hW]; exact (Bx.new rfl).alloc _
  have Xe : Bx W (w1.heap.size + 1) 99 #[.int .i64 0, .int .i64 0, .int .i64 0, .int .i64 0, .int .i64 0] := by rw [hW]; exact Bx.new (by simp)
  have hzW : w1.heap.size + 1 < W.heap.size := by rw [hW]; simp
  rw [← hW]
  clear hW hw1 g0 g1 g2 lg Xg z0 z1 z2 z3 z4 lz Xz fz
  obtain ⟨Xg, Xz⟩ : _ ∧ _ := ⟨Yg, Yz⟩
  clear Yg Yz
  have g0 := Xg.c 0 rfl
  have g1 := Xg.c 1 rfl
  have g2 := Xg.c 2 rfl
  have lg := Xg.lt
  have z0 := Xz.c 0 rfl
  have z1 := Xz.c 1 rfl
  have z2 := Xz.c 2 rfl
  have z3 := Xz.c 3 rfl
  have z4 := Xz.c 4 rfl
  have lz := Xz.lt
  have fz := Xz.f
  have o0 := Xo.c 0 rfl
  have o1 := Xo.c 1 rfl
  have o2 := Xo.c 2 rfl
  have o3 := Xo.c 3 rfl
  have o4 := Xo.c 4 rfl
  have lo := Xo.lt
  have e0 := Xe.c 0 rfl
  have e1 := Xe.c 1 rfl
  have e2 := Xe.c 2 rfl
  have e3 := Xe.c 3 rfl
  have e4 := Xe.c 4 rfl
  have le := Xe.lt
  have yg0 : W.drew.cell? ⟨w.heap.size, 0, none⟩ = some (.int .i64 11) := g0
  have yg1 : W.drew.cell? ⟨w.heap.size, 1, none⟩ = some (.int .i64 (A : Int)) := g1
  have yg2 : W.drew.cell? ⟨w.heap.size, 2, none⟩ = some (.int .i64 (B : Int)) := g2
  refine wp_region_x (fun w' => w'.cell? ⟨w.heap.size, 0, none⟩ = some (.int .i64 11) ∧ w'.cell? ⟨w.heap.size, 1, none⟩ = some (.int .i64 (A : Int)) ∧ w'.cell? ⟨w.heap.size, 2, none⟩ = some (.int .i64 (B : Int))) 1000 (by kernel_rfl) ⟨yg0, yg1, yg2⟩ (fun hS0 => ?_)
  refine wpAnyX_take (i := 0) (oi := _) (v := ?_) rfl (by kernel_rfl) (by kernel_rfl) (by kernel_rfl) (by kernel_rfl) (fun _ _ _ h => h) (Or.inl ⟨by rfl, ?_⟩) hS0 ?_
  rotate_left 1
  · (intro w hSw; (try dsimp only at hSw); go_simp; (try with_reducible rfl))
  try simp only [Act.put, List.setIfInBounds_toArray, List.set_cons_zero, List.set_cons_succ]
  refine wpAnyX_take (i := 1) (oi := _) (v := ?_) rfl (by kernel_rfl) (by kernel_rfl) (by kernel_rfl) (by kernel_rfl) (fun _ _ _ h => h) (Or.inl ⟨by rfl, ?_⟩) hS0 ?_
  rotate_left 1
  · (intro w hSw; (try dsimp only at hSw); go_simp; (try with_reducible rfl))
  try simp only [Act.put, List.setIfInBounds_toArray, List.set_cons_zero, List.set_cons_succ]
  refine wpAnyX_take (i := 2) (oi := _) (v := ?_) rfl (by kernel_rfl) (by kernel_rfl) (by kernel_rfl) (by kernel_rfl) (fun _ _ _ h => h) (Or.inl ⟨by rfl, ?_⟩) hS0 ?_
  rotate_left 1
  · (intro w hSw; (try dsimp only at hSw); go_simp; (try with_reducible rfl))
  try simp only [Act.put, List.setIfInBounds_toArray, List.set_cons_zero, List.set_cons_succ]
  refine wpAnyX_take (i := 3) (oi := _) (v := ?_) rfl (by kernel_rfl) (by kernel_rfl) (by kernel_rfl) (by kernel_rfl) (fun _ _ _ h => h) (Or.inl ⟨by rfl, ?_⟩) hS0 ?_
  rotate_left 1
  · (intro w hSw; (try dsimp only at hSw); go_simp; (try with_reducible rfl))
  try simp only [Act.put, List.setIfInBounds_toArray, List.set_cons_zero, List.set_cons_succ]
  refine wpAnyX_take (i := 5) (oi := _) (v := ?_) rfl (by kernel_rfl) (by kernel_rfl) (by kernel_rfl) (by kernel_rfl) (fun _ _ _ h => h) (Or.inl ⟨by rfl, ?_⟩) hS0 ?_
  rotate_left 1
  · (intro w hSw; (try dsimp only at hSw); go_simp; (try with_reducible rfl))
  try simp only [Act.put, List.setIfInBounds_toArray, List.set_cons_zero, List.set_cons_succ]
  refine wpAnyX_take (i := 6) (oi := _) (v := ?_) rfl (by kernel_rfl) (by kernel_rfl) (by kernel_rfl) (by kernel_rfl) (fun _ _ _ h => h) (Or.inl ⟨by rfl, ?_⟩) hS0 ?_
  rotate_left 1
  · (intro w hSw; (try dsimp only at hSw); go_simp; (try with_reducible rfl))
  try simp only [Act.put, List.setIfInBounds_toArray, List.set_cons_zero, List.set_cons_succ]
  refine wpAnyX_take (i := 7) (oi := _) (v := ?_) rfl (by kernel_rfl) (by kernel_rfl) (by kernel_rfl) (by kernel_rfl) (fun _ _ _ h => h) (Or.inl ⟨by rfl, ?_⟩) hS0 ?_
  rotate_left 1
  · (intro w hSw; (try dsimp only at hSw); go_simp; (try with_reducible rfl))
  try simp only [Act.put, List.setIfInBounds_toArray, List.set_cons_zero, List.set_cons_succ]
  refine wpAnyX_take (i := 8) (oi := _) (v := ?_) rfl (by kernel_rfl) (by kernel_rfl) (by kernel_rfl) (by kernel_rfl) (fun _ _ _ h => h) (Or.inl ⟨by rfl, ?_⟩) hS0 ?_
  rotate_left 1
  · (intro w hSw; (try dsimp only at hSw); go_simp; (try with_reducible rfl))
  try simp only [Act.put, List.setIfInBounds_toArray, List.set_cons_zero, List.set_cons_succ]
  refine wpAnyX_one (i := 4) (o := _) rfl (by kernel_rfl) (fun K hK => ?_)
  go_simp
  refine (lbit h5 hA hc9).mono ?_
  rintro ee v4 ⟨rfl, rfl⟩
  refine hK.out _ _ (fun _ => ?_) (fun hS1 => ?_)
  · exact hS0
  clear hK K
  have hS1 := hS1 (by decide)
  try simp only [Act.put, List.setIfInBounds_toArray, List.set_cons_zero, List.set_cons_succ]
  refine wpAnyX_one (i := 9) (o := _) rfl (by kernel_rfl) (fun K hK => ?_)
  go_simp
  refine (lbit h5 hB hc9).mono ?_
  rintro ee v9 ⟨rfl, rfl⟩
  refine hK.out _ _ (fun _ => ?_) (fun hS2 => ?_)
  · exact hS1
  clear hK K
  have hS2 := hS2 (by decide)
  try simp only [Act.put, List.setIfInBounds_toArray, List.set_cons_zero, List.set_cons_succ]
  refine wpAnyX_take (i := 10) (oi := _) (v := ?_) rfl (by kernel_rfl) (by kernel_rfl) (by kernel_rfl) (by kernel_rfl) (fun _ _ _ h => h) (Or.inl ⟨by rfl, ?_⟩) hS2 ?_
  rotate_left 1
  · (intro w hSw; (try dsimp only at hSw); go_simp; (try with_reducible rfl))
  change wpAnyX _ _ _ _ _ _ _ _ (Act.put _ (some 96) _) _
  try simp only [Act.put, List.setIfInBounds_toArray, List.set_cons_zero, List.set_cons_succ]
  refine wpAnyX_done (by kernel_rfl) ?_ _
  have hw := hw
  go_wp2_with (fail)
  refine bodyPost_ret (v := dy 0 0 0 0 0) (by first | (simp [results, Try.results194, go_sem, *]; done) | (simp (disch := (first | omega | (simp; done) | (simp; omega))) [results, Try.results194, go_sem, *]; done) | (simp only [results, Try.results194]; go_simp; done)) rfl ⟨rfl, ?_⟩
  (repeat' (first | (with_reducible exact Below.refl _ _) | (with_reducible assumption) | (with_reducible refine Below.alloc ?_ ?_ _) | (with_reducible refine Below.drew ?_) | (with_reducible refine below_drewN ?_ _) | (with_reducible refine Below.setCell ?_ ?_ _) | (with_reducible refine chain ?_ (by assumption) ?_) | omega | (simp; done) | (simp; omega)))

set_option maxRecDepth 100000 in
set_option maxHeartbeats 8000000 in
theorem lc1_1 {kd : Nat} (d1 : 1 ≤ kd) (d8 : kd ≤ 8) {n A B r c : Nat} {w : World} (h5 : n ≤ 5) (hr : r < 2 ^ n) (hc : c < 2 ^ n) (hA : A < n) (h : ¬ (r ^^^ c) - ((r ^^^ c) &&& msk n A) = 0) :
    Calls Try.prog 194 #[.int .i64 (n : Int), .agg #[.int .i64 (kd : Int), .int .i64 (A : Int), .int .i64 (B : Int)], .int .i64 (r : Int), .int .i64 (c : Int)] w fun ee w' => ee = .returned (z5).v ∧ Below w.heap.size w w' := by
  have hr9 : r < 32 := Nat.lt_of_lt_of_le hr (pow_le h5)
  have hc9 : c < 32 := Nat.lt_of_lt_of_le hc (pow_le h5)
  have hsA := shl_w h5 hA
  have hmA : (A : Int) + 1 ≤ n := by omega
  have hpA : 0 ≤ (n : Int) - 1 - (A : Int) := by omega
  have h4 : (n : Int) ≤ 5 := by omega
  have hx := bxor hr9 hc9
  have hlt : r ^^^ c < 32 := Nat.lt_of_lt_of_le (Nat.xor_lt_two_pow hr hc) (pow_le h5)
  have hy := bnot hlt (msk32 h5 hA)
  obtain ⟨d, hd⟩ : ∃ d : Nat, d = (r ^^^ c) - ((r ^^^ c) &&& msk n A) := ⟨_, rfl⟩
  rw [← hd] at hy h
  obtain ⟨x, hxx⟩ : ∃ x : Nat, x = r ^^^ c := ⟨_, rfl⟩
  rw [← hxx] at hx hy
  have k12 : ((kd : Int) == 12) = false := by simp; omega
  have k9 : ((kd : Int) == 9) = false := by simp; omega
  have k10 : ((kd : Int) == 10) = false := by simp; omega
  have k11 : ((kd : Int) == 11) = false := by simp; omega
  have n12 : ¬ (kd : Int) = 12 := by omega
  have n9 : ¬ (kd : Int) = 9 := by omega
  have n10 : ¬ (kd : Int) = 10 := by omega
  have n11 : ¬ (kd : Int) = 11 := by omega
  have hd1 : ((d : Int) != 0) = true := by simp; omega
  have hd2 : ((d : Int) == 0) = false := by simp; omega
  have hd3 : ¬ (d : Int) = 0 := by omega
  clear h hd hxx hlt
  go_enter Try.func194, Try.ntmps194
  go_wp2_with (fail)
  refine lpw0.mono ?_
  rintro ee w1 ⟨rfl, hb1⟩
  have Xg : Bx w1 (w.heap.size) 150 #[.int .i64 (kd : Int), .int .i64 (A : Int), .int .i64 (B : Int)] := by (repeat' (first | (with_reducible assumption) | (refine Bx.new (by first | (with_reducible rfl) | (simp; done))) | (with_reducible refine Bx.alloc ?_ _) | (with_reducible refine Bx.drew ?_) | (with_reducible refine Bx.drewN ?_ _) | (with_reducible refine Bx.mono ?_ (by assumption)) | (with_reducible refine Bx.badly ?_ (by assumption) (by omega)) | (with_reducible refine Bx.far ?_ (by (try simp only [World.size_alloc, World.size_drew]); omega)) | (with_reducible refine Bx.set ?_ rfl) | (with_reducible refine Bx.grown ?_ (by assumption) (by assumption))))
  have Xz : Bx w1 (w.heap.size + 1) 99 #[.int .i64 0, .int .i64 0, .int .i64 0, .int .i64 0, .int .i64 0] := by (repeat' (first | (with_reducible assumption) | (refine Bx.new (by first | (with_reducible rfl) | (simp; done))) | (with_reducible refine Bx.alloc ?_ _) | (with_reducible refine Bx.drew ?_) | (with_reducible refine Bx.drewN ?_ _) | (with_reducible refine Bx.mono ?_ (by assumption)) | (with_reducible refine Bx.badly ?_ (by assumption) (by omega)) | (with_reducible refine Bx.far ?_ (by (try simp only [World.size_alloc, World.size_drew]); omega)) | (with_reducible refine Bx.set ?_ rfl) | (with_reducible refine Bx.grown ?_ (by assumption) (by assumption))))
  have hz1 := hb1.size
  (try simp only [World.size_alloc] at hz1)
  have hw1 : Below w.heap.size w w1 := by (repeat' (first | (with_reducible exact Below.refl _ _) | (with_reducible assumption) | (with_reducible refine Below.alloc ?_ ?_ _) | (with_reducible refine Below.drew ?_) | (with_reducible refine below_drewN ?_ _) | (with_reducible refine Below.setCell ?_ ?_ _) | (with_reducible refine chain ?_ (by assumption) ?_) | omega | (simp; done) | (simp; omega)))
  clear hb1
  have g0 := Xg.c 0 rfl
  have g1 := Xg.c 1 rfl
  have g2 := Xg.c 2 rfl
  have lg := Xg.lt
  have z0 := Xz.c 0 rfl
  have z1 := Xz.c 1 rfl
  have z2 := Xz.c 2 rfl
  have z3 := Xz.c 3 rfl
  have z4 := Xz.c 4 rfl
  have lz := Xz.lt
  have fz := Xz.f
  go_wp2_with (fail)
  refine bodyPost_ret (v := dy 0 0 0 0 0) (by first | (simp [results, Try.results194, go_sem, *]; done) | (simp (disch := (first | omega | (simp; done) | (simp; omega))) [results, Try.results194, go_sem, *]; done) | (simp only [results, Try.results194]; go_simp; done)) rfl ⟨rfl, ?_⟩
  (repeat' (first | (with_reducible exact Below.refl _ _) | (with_reducible assumption) | (with_reducible refine Below.alloc ?_ ?_ _) | (with_reducible refine Below.drew ?_) | (with_reducible refine below_drewN ?_ _) | (with_reducible refine Below.setCell ?_ ?_ _) | (with_reducible refine chain ?_ (by assumption) ?_) | omega | (simp; done) | (simp; omega)))

set_option maxRecDepth 100000 in
set_option maxHeartbeats 8000000 in
theorem lc1_0 {kd : Nat} (d1 : 1 ≤ kd) (d8 : kd ≤ 8) {n A B r c : Nat} {w : World} (h5 : n ≤ 5) (hr : r < 2 ^ n) (hc : c < 2 ^ n) (hA : A < n) (h : (r ^^^ c) - ((r ^^^ c) &&& msk n A) = 0) :
    Calls Try.prog 194 #[.int .i64 (n : Int), .agg #[.int .i64 (kd : Int), .int .i64 (A : Int), .int .i64 (B : Int)], .int .i64 (r : Int), .int .i64 (c : Int)] w fun ee w' => ee = .returned (cellC (one kd (2 * bitS n r A + bitS n c A))).v ∧ Below w.heap.size w w' := by
  have hr9 : r < 32 := Nat.lt_of_lt_of_le hr (pow_le h5)
  have hc9 : c < 32 := Nat.lt_of_lt_of_le hc (pow_le h5)
  have hsA := shl_w h5 hA
  have hmA : (A : Int) + 1 ≤ n := by omega
  have hpA : 0 ≤ (n : Int) - 1 - (A : Int) := by omega
  have h4 : (n : Int) ≤ 5 := by omega
  have hx := bxor hr9 hc9
  have hlt : r ^^^ c < 32 := Nat.lt_of_lt_of_le (Nat.xor_lt_two_pow hr hc) (pow_le h5)
  have hy := bnot hlt (msk32 h5 hA)
  obtain ⟨d, hd⟩ : ∃ d : Nat, d = (r ^^^ c) - ((r ^^^ c) &&& msk n A) := ⟨_, rfl⟩
  rw [← hd] at hy h
  obtain ⟨x, hxx⟩ : ∃ x : Nat, x = r ^^^ c := ⟨_, rfl⟩
  rw [← hxx] at hx hy
  have k12 : ((kd : Int) == 12) = false := by simp; omega
  have k9 : ((kd : Int) == 9) = false := by simp; omega
  have k10 : ((kd : Int) == 10) = false := by simp; omega
  have k11 : ((kd : Int) == 11) = false := by simp; omega
  have n12 : ¬ (kd : Int) = 12 := by omega
  have n9 : ¬ (kd : Int) = 9 := by omega
  have n10 : ¬ (kd : Int) = 10 := by omega
  have n11 : ¬ (kd : Int) = 11 := by omega
  subst h
  obtain ⟨i, hi⟩ : ∃ i : Nat, i = 2 * bitS n r A + bitS n c A := ⟨_, rfl⟩
  have b1 : bitS n r A ≤ 1 := by rcases bitS_01 (n := n) (c := r) (q := A) with h | h <;> omega
  have b2 : bitS n c A ≤ 1 := by rcases bitS_01 (n := n) (c := c) (q := A) with h | h <;> omega
  have hi4 : i < 4 := by omega
  have q1 : IntKind.i64.wrap (2 * ((bitS n r A : Nat) : Int)) = 2 * ((bitS n r A : Nat) : Int) := IntWalk.i64_in _ (by omega)
  have q2 : 2 * ((bitS n r A : Nat) : Int) + ((bitS n c A : Nat) : Int) = (i : Int) := by omega
  have q3 : IntKind.i64.wrap (i : Int) = (i : Int) := IntWalk.i64_in _ (by omega)
  have q4 : (i : Int) < 4 := by omega
  have HI := hid hi
  rw [← hi]
  clear hi hd hxx hlt
  go_enter Try.func194, Try.ntmps194
  go_wp2_with (fail)
  refine lpw0.mono ?_
  rintro ee w1 ⟨rfl, hb1⟩
  have Xg : Bx w1 (w.heap.size) 150 #[.int .i64 (kd : Int), .int .i64 (A : Int), .int .i64 (B : Int)] := by (repeat' (first | (with_reducible assumption) | (refine Bx.new (by first | (with_reducible rfl) | (simp; done))) | (with_reducible refine Bx.alloc ?_ _) | (with_reducible refine Bx.drew ?_) | (with_reducible refine Bx.drewN ?_ _) | (with_reducible refine Bx.mono ?_ (by assumption)) | (with_reducible refine Bx.badly ?_ (by assumption) (by omega)) | (with_reducible refine Bx.far ?_ (by (try simp only [World.size_alloc, World.size_drew]); omega)) | (with_reducible refine Bx.set ?_ rfl) | (with_reducible refine Bx.grown ?_ (by assumption) (by assumption))))
  have Xz : Bx w1 (w.heap.size + 1) 99 #[.int .i64 0, .int .i64 0, .int .i64 0, .int .i64 0, .int .i64 0] := by (repeat' (first | (with_reducible assumption) | (refine Bx.new (by first | (with_reducible rfl) | (simp; done))) | (with_reducible refine Bx.alloc ?_ _) | (with_reducible refine Bx.drew ?_) | (with_reducible refine Bx.drewN ?_ _) | (with_reducible refine Bx.mono ?_ (by assumption)) | (with_reducible refine Bx.badly ?_ (by assumption) (by omega)) | (with_reducible refine Bx.far ?_ (by (try simp only [World.size_alloc, World.size_drew]); omega)) | (with_reducible refine Bx.set ?_ rfl) | (with_reducible refine Bx.grown ?_ (by assumption) (by assumption))))
  have hz1 := hb1.size
  (try simp only [World.size_alloc] at hz1)
  have hw1 : Below w.heap.size w w1 := by (repeat' (first | (with_reducible exact Below.refl _ _) | (with_reducible assumption) | (with_reducible refine Below.alloc ?_ ?_ _) | (with_reducible refine Below.drew ?_) | (with_reducible refine below_drewN ?_ _) | (with_reducible refine Below.setCell ?_ ?_ _) | (with_reducible refine chain ?_ (by assumption) ?_) | omega | (simp; done) | (simp; omega)))
  clear hb1
  have g0 := Xg.c 0 rfl
  have g1 := Xg.c 1 rfl
  have g2 := Xg.c 2 rfl
  have lg := Xg.lt
  have z0 := Xz.c 0 rfl
  have z1 := Xz.c 1 rfl
  have z2 := Xz.c 2 rfl
  have z3 := Xz.c 3 rfl
  have z4 := Xz.c 4 rfl
  have lz := Xz.lt
  have fz := Xz.f
  go_upto_region 6 with (fail)
  obtain ⟨W, hW⟩ : ∃ W : World, W = (w1.alloc (.cells #[.int .i64 (omP 0).a, .int .i64 (omP 0).b, .int .i64 (omP 0).c, .int .i64 (omP 0).d, .int .i64 (omP 0).e] 99)).alloc (.cells #[.int .i64 0, .int .i64 0, .int .i64 0, .int .i64 0, .int .i64 0] 99) := ⟨_, rfl⟩
  have hw : Below w.heap.size w W := by rw [hW]; exact (hw1.alloc hw1.size _).alloc (by simp; omega) _
  have Yg := (Xg.alloc (.cells #[.int .i64 (omP 0).a, .int .i64 (omP 0).b, .int .i64 (omP 0).c, .int .i64 (omP 0).d, .int .i64 (omP 0).e] 99)).alloc (.cells #[.int .i64 0, .int .i64 0, .int .i64 0, .int .i64 0, .int .i64 0] 99)
  have Yz := (Xz.alloc (.cells #[.int .i64 (omP 0).a, .int .i64 (omP 0).b, .int .i64 (omP 0).c, .int .i64 (omP 0).d, .int .i64 (omP 0).e] 99)).alloc (.cells #[.int .i64 0, .int .i64 0, .int .i64 0, .int .i64 0, .int .i64 0] 99)
  rw [← hW] at Yg Yz
  have hzW : w1.heap.size + 1 < W.heap.size := by rw [hW]; simp
  rw [← hW]
  clear hW hw1 g0 g1 g2 lg Xg z0 z1 z2 z3 z4 lz Xz fz
  obtain ⟨Xg, Xz⟩ : _ ∧ _ := ⟨Yg, Yz⟩
  clear Yg Yz
  have g0 := Xg.c 0 rfl
  have g1 := Xg.c 1 rfl
  have g2 := Xg.c 2 rfl
  have lg := Xg.lt
  have yg0 : W.drew.cell? ⟨w.heap.size, 0, none⟩ = some (.int .i64 (kd : Int)) := g0
  have yg1 : W.drew.cell? ⟨w.heap.size, 1, none⟩ = some (.int .i64 (A : Int)) := g1
  have yg2 : W.drew.cell? ⟨w.heap.size, 2, none⟩ = some (.int .i64 (B : Int)) := g2
  refine wp_region_x (fun w' => w'.cell? ⟨w.heap.size, 0, none⟩ = some (.int .i64 (kd : Int)) ∧ w'.cell? ⟨w.heap.size, 1, none⟩ = some (.int .i64 (A : Int)) ∧ w'.cell? ⟨w.heap.size, 2, none⟩ = some (.int .i64 (B : Int))) 1000 (by kernel_rfl) ⟨yg0, yg1, yg2⟩ (fun hS0 => ?_)
  refine wpAnyX_take (i := 0) (oi := _) (v := ?_) rfl (by kernel_rfl) (by kernel_rfl) (by kernel_rfl) (by kernel_rfl) (fun _ _ _ h => h) (Or.inl ⟨by rfl, ?_⟩) hS0 ?_
  rotate_left 1
  · (intro w hSw; (try dsimp only at hSw); go_simp; (try with_reducible rfl))
  try simp only [Act.put, List.setIfInBounds_toArray, List.set_cons_zero, List.set_cons_succ]
  refine wpAnyX_take (i := 1) (oi := _) (v := ?_) rfl (by kernel_rfl) (by kernel_rfl) (by kernel_rfl) (by kernel_rfl) (fun _ _ _ h => h) (Or.inl ⟨by rfl, ?_⟩) hS0 ?_
  rotate_left 1
  · (intro w hSw; (try dsimp only at hSw); go_simp; (try with_reducible rfl))
  try simp only [Act.put, List.setIfInBounds_toArray, List.set_cons_zero, List.set_cons_succ]
  refine wpAnyX_take (i := 3) (oi := _) (v := ?_) rfl (by kernel_rfl) (by kernel_rfl) (by kernel_rfl) (by kernel_rfl) (fun _ _ _ h => h) (Or.inl ⟨by rfl, ?_⟩) hS0 ?_
  rotate_left 1
  · (intro w hSw; (try dsimp only at hSw); go_simp; (try with_reducible rfl))
  try simp only [Act.put, List.setIfInBounds_toArray, List.set_cons_zero, List.set_cons_succ]
  refine wpAnyX_take (i := 4) (oi := _) (v := ?_) rfl (by kernel_rfl) (by kernel_rfl) (by kernel_rfl) (by kernel_rfl) (fun _ _ _ h => h) (Or.inl ⟨by rfl, ?_⟩) hS0 ?_
  rotate_left 1
  · (intro w hSw; (try dsimp only at hSw); go_simp; (try with_reducible rfl))
  try simp only [Act.put, List.setIfInBounds_toArray, List.set_cons_zero, List.set_cons_succ]
  refine wpAnyX_take (i := 5) (oi := _) (v := ?_) rfl (by kernel_rfl) (by kernel_rfl) (by kernel_rfl) (by kernel_rfl) (fun _ _ _ h => h) (Or.inl ⟨by rfl, ?_⟩) hS0 ?_
  rotate_left 1
  · (intro w hSw; (try dsimp only at hSw); go_simp; (try with_reducible rfl))
  try simp only [Act.put, List.setIfInBounds_toArray, List.set_cons_zero, List.set_cons_succ]
  refine wpAnyX_take (i := 6) (oi := _) (v := ?_) rfl (by kernel_rfl) (by kernel_rfl) (by kernel_rfl) (by kernel_rfl) (fun _ _ _ h => h) (Or.inl ⟨by rfl, ?_⟩) hS0 ?_
  rotate_left 1
  · (intro w hSw; (try dsimp only at hSw); go_simp; (try with_reducible rfl))
  try simp only [Act.put, List.setIfInBounds_toArray, List.set_cons_zero, List.set_cons_succ]
  refine wpAnyX_take (i := 9) (oi := _) (v := ?_) rfl (by kernel_rfl) (by kernel_rfl) (by kernel_rfl) (by kernel_rfl) (fun _ _ _ h => h) (Or.inl ⟨by rfl, ?_⟩) hS0 ?_
  rotate_left 1
  · (intro w hSw; (try dsimp only at hSw); go_simp; (try with_reducible rfl))
  try simp only [Act.put, List.setIfInBounds_toArray, List.set_cons_zero, List.set_cons_succ]
  refine wpAnyX_take (i := 10) (oi := _) (v := ?_) rfl (by kernel_rfl) (by kernel_rfl) (by kernel_rfl) (by kernel_rfl) (fun _ _ _ h => h) (Or.inl ⟨by rfl, ?_⟩) hS0 ?_
  rotate_left 1
  · (intro w hSw; (try dsimp only at hSw); go_simp; (try with_reducible rfl))
  try simp only [Act.put, List.setIfInBounds_toArray, List.set_cons_zero, List.set_cons_succ]
  refine wpAnyX_take (i := 11) (oi := _) (v := ?_) rfl (by kernel_rfl) (by kernel_rfl) (by kernel_rfl) (by kernel_rfl) (fun _ _ _ h => h) (Or.inl ⟨by rfl, ?_⟩) hS0 ?_
  rotate_left 1
  · (intro w hSw; (try dsimp only at hSw); go_simp; (try with_reducible rfl))
  try simp only [Act.put, List.setIfInBounds_toArray, List.set_cons_zero, List.set_cons_succ]
  refine wpAnyX_take (i := 12) (oi := _) (v := ?_) rfl (by kernel_rfl) (by kernel_rfl) (by kernel_rfl) (by kernel_rfl) (fun _ _ _ h => h) (Or.inl ⟨by rfl, ?_⟩) hS0 ?_
  rotate_left 1
  · (intro w hSw; (try dsimp only at hSw); go_simp; (try with_reducible rfl))
  try simp only [Act.put, List.setIfInBounds_toArray, List.set_cons_zero, List.set_cons_succ]
  refine wpAnyX_one (i := 2) (o := _) rfl (by kernel_rfl) (fun K hK => ?_)
  go_simp
  refine (lone d1 d8).mono ?_
  rintro ee v0 ⟨gb, rfl, hK0, hgb, hv00⟩
  have hv0 := undrewK hv00
  have hzv := hv0.size
  have lgb := hK0.lt
  refine hK.out _ _ (fun _ => ?_) (fun hS1 => ?_)
  · exact ⟨kc hv00 (hS0.1), kc hv00 (hS0.2.1), kc hv00 (hS0.2.2)⟩
  clear hK K
  have hS1 := hS1 (by decide)
  try simp only [Act.put, List.setIfInBounds_toArray, List.set_cons_zero, List.set_cons_succ]
  refine wpAnyX_one (i := 7) (o := _) rfl (by kernel_rfl) (fun K hK => ?_)
  go_simp
  refine (lbit h5 hA hr9).mono ?_
  rintro ee v1 ⟨rfl, rfl⟩
  refine hK.out _ _ (fun _ => ?_) (fun hS2 => ?_)
  · exact hS1
  clear hK K
  have hS2 := hS2 (by decide)
  try simp only [Act.put, List.setIfInBounds_toArray, List.set_cons_zero, List.set_cons_succ]
  refine wpAnyX_take (i := 8) (oi := _) (v := ?_) rfl (by kernel_rfl) (by kernel_rfl) (by kernel_rfl) (by kernel_rfl) (fun _ _ _ h => h) (Or.inl ⟨by rfl, ?_⟩) hS2 ?_
  rotate_left 1
  · (intro w hSw; (try dsimp only at hSw); go_simp; (try with_reducible rfl))
  try simp only [Act.put, List.setIfInBounds_toArray, List.set_cons_zero, List.set_cons_succ]
  refine wpAnyX_one (i := 13) (o := _) rfl (by kernel_rfl) (fun K hK => ?_)
  go_simp
  refine (lbit h5 hA hc9).mono ?_
  rintro ee v2 ⟨rfl, rfl⟩
  refine hK.out _ _ (fun _ => ?_) (fun hS3 => ?_)
  · exact hS2
  clear hK K
  have hS3 := hS3 (by decide)
  try simp only [Act.put, List.setIfInBounds_toArray, List.set_cons_zero, List.set_cons_succ]
  refine wpAnyX_take (i := 14) (oi := _) (v := ?_) rfl (by kernel_rfl) (by kernel_rfl) (by kernel_rfl) (by kernel_rfl) (fun _ _ _ h => h) (Or.inl ⟨by rfl, ?_⟩) hS3 ?_
  rotate_left 1
  · (intro w hSw; (try dsimp only at hSw); go_simp; (try with_reducible rfl))
  try simp only [Act.put, List.setIfInBounds_toArray, List.set_cons_zero, List.set_cons_succ]
  refine wpAnyX_take (i := 15) (oi := _) (v := ?_) rfl (by kernel_rfl) (by kernel_rfl) (by kernel_rfl) (by kernel_rfl) (fun _ _ _ h => h) (Or.inl ⟨by rfl, ?_⟩) hS3 ?_
  rotate_left 1
  · (intro w hSw; (try dsimp only at hSw); go_simp; (try with_reducible rfl))
  try simp only [Act.put, List.setIfInBounds_toArray, List.set_cons_zero, List.set_cons_succ]
  refine wpAnyX_one (i := 16) (o := _) rfl (by kernel_rfl) (fun K hK => ?_)
  obtain ⟨p0, p1, p2, p3, p4⟩ := hK0.cx (k := i) (tab_get hi4)
  go_simp
  refine hK.out _ _ (fun _ => ?_) (fun hS4 => ?_)
  · exact hS3
  clear hK K
  have hS4 := hS4 (by decide)
  try simp only [Act.put, List.setIfInBounds_toArray, List.set_cons_zero, List.set_cons_succ]
  refine wpAnyX_one (i := 17) (o := _) rfl (by kernel_rfl) (fun K hK => ?_)
  have Xz0 := Xz.mono hv0
  have e0 := Xz0.c 0 rfl
  have e1 := Xz0.c 1 rfl
  have e2 := Xz0.c 2 rfl
  have e3 := Xz0.c 3 rfl
  have e4 := Xz0.c 4 rfl
  have ef := Xz0.f
  have el := Xz0.lt
  go_simp
  refine hK.out _ _ (fun _ => ?_) (fun hS5 => ?_)
  · exact ⟨kst5 (by omega) (hS4.1), kst5 (by omega) (hS4.2.1), kst5 (by omega) (hS4.2.2)⟩
  clear hK K
  have hS5 := hS5 (by decide)
  try simp only [Act.put, List.setIfInBounds_toArray, List.set_cons_zero, List.set_cons_succ]
  refine wpAnyX_done (by kernel_rfl) ?_ _
  have hw0 := chain hw hv0 hw.size
  go_wp2_with (fail)
  refine bodyPost_ret (v := dy (cellC (one kd i)).a (cellC (one kd i)).b (cellC (one kd i)).c (cellC (one kd i)).d (cellC (one kd i)).e) (by first | (simp [results, Try.results194, go_sem, *]; done) | (simp (disch := (first | omega | (simp; done) | (simp; omega))) [results, Try.results194, go_sem, *]; done) | (simp only [results, Try.results194]; go_simp; done)) rfl ⟨rfl, ?_⟩
  (repeat' (first | (with_reducible exact Below.refl _ _) | (with_reducible assumption) | (with_reducible refine Below.alloc ?_ ?_ _) | (with_reducible refine Below.drew ?_) | (with_reducible refine below_drewN ?_ _) | (with_reducible refine Below.setCell ?_ ?_ _) | (with_reducible refine chain ?_ (by assumption) ?_) | omega | (simp; done) | (simp; omega)))

end Go.Proofs.Ytofclfgaekjonaa
