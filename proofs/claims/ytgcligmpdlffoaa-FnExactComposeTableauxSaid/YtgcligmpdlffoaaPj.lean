/- MulPauli. -/
import Derived.Test.YtgcligmpdlffoaaPi
import Derived.Test.YtgcligmpdlffoaaPs
namespace Go.Proofs.Ytgcligmpdlffoaa.C4
open Go.RowKit
set_option linter.unusedVariables false
set_option linter.unusedSimpArgs false
attribute [local irreducible] World.setCell

theorem pB_and {n : Int} {x y : PauliV} (h : (pB n x && pB n y) = false) : pB n x = false ∨ (pB n x = true ∧ pB n y = false) := by
  cases hx : pB n x
  · exact Or.inl rfl
  · rw [hx] at h; exact Or.inr ⟨rfl, h⟩
set_option maxRecDepth 100000 in
set_option maxHeartbeats 4000000 in
theorem mp_i_f {n : Int} {x y : PauliV} (h : (pB n x && pB n y) = false) (w : World) :
    Calls Try.prog 30 #[.int .i64 n, x.v, y.v] w fun ee w' => ee = .returned (.tuple #[PauliV.z.v, .bool false]) ∧ Below w.heap.size w w' := by
  rcases pB_and h with hx | ⟨hx, hy⟩
  · have HX := lay hx
    clear h hx
    go_enter Try.func30, Try.ntmps30
    go_wp2_with (fail)
    refine (ivp (x := x) HX.out _).mono ?_
    rintro ee w1 ⟨rfl, hb1⟩
    have hz1 := hb1.size
    (try simp only [World.size_alloc] at hz1)
    have Ya : Hid (Bb w1 (w.heap.size) 45 #[.int .i64 x.f0, .int .i64 x.f1, .int .i64 x.f2]) := by show Bb _ _ _ _; (repeat' (first | (with_reducible assumption) | (refine Bb.new (by first | (with_reducible rfl) | (simp; done))) | (with_reducible refine Bb.alloc ?_ _) | (with_reducible refine Bb.drew ?_) | (with_reducible refine Bb.drewN ?_ _) | (with_reducible refine Bb.mono ?_ (by assumption)) | (with_reducible refine Bb.far ?_ (by (try simp only [World.size_alloc, World.size_drew]); omega)) | (with_reducible refine Bb.set ?_ rfl) | (with_reducible refine Bb.grown ?_ (by assumption) (by assumption))))
    have Yb : Hid (Bb w1 (w.heap.size + 1) 45 #[.int .i64 y.f0, .int .i64 y.f1, .int .i64 y.f2]) := by show Bb _ _ _ _; (repeat' (first | (with_reducible assumption) | (refine Bb.new (by first | (with_reducible rfl) | (simp; done))) | (with_reducible refine Bb.alloc ?_ _) | (with_reducible refine Bb.drew ?_) | (with_reducible refine Bb.drewN ?_ _) | (with_reducible refine Bb.mono ?_ (by assumption)) | (with_reducible refine Bb.far ?_ (by (try simp only [World.size_alloc, World.size_drew]); omega)) | (with_reducible refine Bb.set ?_ rfl) | (with_reducible refine Bb.grown ?_ (by assumption) (by assumption))))
    have Yz : Hid (Bb w1 (w.heap.size + 1 + 1) 45 #[.int .i64 0, .int .i64 0, .int .i64 0]) := by show Bb _ _ _ _; (repeat' (first | (with_reducible assumption) | (refine Bb.new (by first | (with_reducible rfl) | (simp; done))) | (with_reducible refine Bb.alloc ?_ _) | (with_reducible refine Bb.drew ?_) | (with_reducible refine Bb.drewN ?_ _) | (with_reducible refine Bb.mono ?_ (by assumption)) | (with_reducible refine Bb.far ?_ (by (try simp only [World.size_alloc, World.size_drew]); omega)) | (with_reducible refine Bb.set ?_ rfl) | (with_reducible refine Bb.grown ?_ (by assumption) (by assumption))))
    (try clear Ra)
    (try clear Xa)
    have Xa := Ya
    clear Ya
    (try clear Rb)
    (try clear Xb)
    have Xb := Yb
    clear Yb
    (try clear Rz)
    (try clear Xz)
    have Xz := Yz
    clear Yz
    have hB1 : Below w.heap.size w w1 := by (repeat' (first | (with_reducible exact Below.refl _ _) | (with_reducible assumption) | (with_reducible refine Below.alloc ?_ ?_ _) | (with_reducible refine Below.drew ?_) | (with_reducible refine bdN ?_ _) | (with_reducible refine Below.setCell ?_ ?_ _) | (with_reducible refine chn ?_ (by assumption) ?_) | omega | (simp; done) | (simp; omega)))
    clear hb1
    have ca0 := Xa.out.c 0 rfl
    have ca1 := Xa.out.c 1 rfl
    have ca2 := Xa.out.c 2 rfl
    have la := Xa.out.lt
    have cb0 := Xb.out.c 0 rfl
    have cb1 := Xb.out.c 1 rfl
    have cb2 := Xb.out.c 2 rfl
    have lb := Xb.out.lt
    have cz0 := Xz.out.c 0 rfl
    have cz1 := Xz.out.c 1 rfl
    have cz2 := Xz.out.c 2 rfl
    have lz := Xz.out.lt
    have fz := Xz.out.f
    go_wp2_with (fail)
    refine bodyPost_ret (v := .tuple #[.agg #[.int .i64 0, .int .i64 0, .int .i64 0], .bool false]) (by first | (simp [results, Try.results30, go_sem, *]; done) | (simp (disch := (first | omega | (simp; done) | (simp; omega))) [results, Try.results30, go_sem, *]; done) | (simp only [results, Try.results30]; go_simp; done)) rfl ⟨rfl, ?_⟩
    (repeat' (first | (with_reducible exact Below.refl _ _) | (with_reducible assumption) | (with_reducible refine Below.alloc ?_ ?_ _) | (with_reducible refine Below.drew ?_) | (with_reducible refine bdN ?_ _) | (with_reducible refine Below.setCell ?_ ?_ _) | (with_reducible refine chn ?_ (by assumption) ?_) | omega | (simp; done) | (simp; omega)))
  · have HX := lay hx
    have HY := lay hy
    clear h hx hy
    go_enter Try.func30, Try.ntmps30
    go_wp2_with (fail)
    refine (ivp (x := x) HX.out _).mono ?_
    rintro ee w1 ⟨rfl, hb1⟩
    have hz1 := hb1.size
    (try simp only [World.size_alloc] at hz1)
    have Ya : Hid (Bb w1 (w.heap.size) 45 #[.int .i64 x.f0, .int .i64 x.f1, .int .i64 x.f2]) := by show Bb _ _ _ _; (repeat' (first | (with_reducible assumption) | (refine Bb.new (by first | (with_reducible rfl) | (simp; done))) | (with_reducible refine Bb.alloc ?_ _) | (with_reducible refine Bb.drew ?_) | (with_reducible refine Bb.drewN ?_ _) | (with_reducible refine Bb.mono ?_ (by assumption)) | (with_reducible refine Bb.far ?_ (by (try simp only [World.size_alloc, World.size_drew]); omega)) | (with_reducible refine Bb.set ?_ rfl) | (with_reducible refine Bb.grown ?_ (by assumption) (by assumption))))
    have Yb : Hid (Bb w1 (w.heap.size + 1) 45 #[.int .i64 y.f0, .int .i64 y.f1, .int .i64 y.f2]) := by show Bb _ _ _ _; (repeat' (first | (with_reducible assumption) | (refine Bb.new (by first | (with_reducible rfl) | (simp; done))) | (with_reducible refine Bb.alloc ?_ _) | (with_reducible refine Bb.drew ?_) | (with_reducible refine Bb.drewN ?_ _) | (with_reducible refine Bb.mono ?_ (by assumption)) | (with_reducible refine Bb.far ?_ (by (try simp only [World.size_alloc, World.size_drew]); omega)) | (with_reducible refine Bb.set ?_ rfl) | (with_reducible refine Bb.grown ?_ (by assumption) (by assumption))))
    have Yz : Hid (Bb w1 (w.heap.size + 1 + 1) 45 #[.int .i64 0, .int .i64 0, .int .i64 0]) := by show Bb _ _ _ _; (repeat' (first | (with_reducible assumption) | (refine Bb.new (by first | (with_reducible rfl) | (simp; done))) | (with_reducible refine Bb.alloc ?_ _) | (with_reducible refine Bb.drew ?_) | (with_reducible refine Bb.drewN ?_ _) | (with_reducible refine Bb.mono ?_ (by assumption)) | (with_reducible refine Bb.far ?_ (by (try simp only [World.size_alloc, World.size_drew]); omega)) | (with_reducible refine Bb.set ?_ rfl) | (with_reducible refine Bb.grown ?_ (by assumption) (by assumption))))
    (try clear Ra)
    (try clear Xa)
    have Xa := Ya
    clear Ya
    (try clear Rb)
    (try clear Xb)
    have Xb := Yb
    clear Yb
    (try clear Rz)
    (try clear Xz)
    have Xz := Yz
    clear Yz
    have hB1 : Below w.heap.size w w1 := by (repeat' (first | (with_reducible exact Below.refl _ _) | (with_reducible assumption) | (with_reducible refine Below.alloc ?_ ?_ _) | (with_reducible refine Below.drew ?_) | (with_reducible refine bdN ?_ _) | (with_reducible refine Below.setCell ?_ ?_ _) | (with_reducible refine chn ?_ (by assumption) ?_) | omega | (simp; done) | (simp; omega)))
    clear hb1
    have ca0 := Xa.out.c 0 rfl
    have ca1 := Xa.out.c 1 rfl
    have ca2 := Xa.out.c 2 rfl
    have la := Xa.out.lt
    have cb0 := Xb.out.c 0 rfl
    have cb1 := Xb.out.c 1 rfl
    have cb2 := Xb.out.c 2 rfl
    have lb := Xb.out.lt
    have cz0 := Xz.out.c 0 rfl
    have cz1 := Xz.out.c 1 rfl
    have cz2 := Xz.out.c 2 rfl
    have lz := Xz.out.lt
    have fz := Xz.out.f
    go_wp2_with (fail)
    refine (ivp (x := y) HY.out _).mono ?_
    rintro ee w2 ⟨rfl, hb2⟩
    have hz2 := hb2.size
    (try simp only [World.size_alloc] at hz2)
    clear ca0 ca1 ca2 la cb0 cb1 cb2 lb cz0 cz1 cz2 lz fz
    have Ra := Xa.out
    have Rb := Xb.out
    have Rz := Xz.out
    have Ya : Hid (Bb w2 (w.heap.size) 45 #[.int .i64 x.f0, .int .i64 x.f1, .int .i64 x.f2]) := by show Bb _ _ _ _; (repeat' (first | (with_reducible assumption) | (refine Bb.new (by first | (with_reducible rfl) | (simp; done))) | (with_reducible refine Bb.alloc ?_ _) | (with_reducible refine Bb.drew ?_) | (with_reducible refine Bb.drewN ?_ _) | (with_reducible refine Bb.mono ?_ (by assumption)) | (with_reducible refine Bb.far ?_ (by (try simp only [World.size_alloc, World.size_drew]); omega)) | (with_reducible refine Bb.set ?_ rfl) | (with_reducible refine Bb.grown ?_ (by assumption) (by assumption))))
    have Yb : Hid (Bb w2 (w.heap.size + 1) 45 #[.int .i64 y.f0, .int .i64 y.f1, .int .i64 y.f2]) := by show Bb _ _ _ _; (repeat' (first | (with_reducible assumption) | (refine Bb.new (by first | (with_reducible rfl) | (simp; done))) | (with_reducible refine Bb.alloc ?_ _) | (with_reducible refine Bb.drew ?_) | (with_reducible refine Bb.drewN ?_ _) | (with_reducible refine Bb.mono ?_ (by assumption)) | (with_reducible refine Bb.far ?_ (by (try simp only [World.size_alloc, World.size_drew]); omega)) | (with_reducible refine Bb.set ?_ rfl) | (with_reducible refine Bb.grown ?_ (by assumption) (by assumption))))
    have Yz : Hid (Bb w2 (w.heap.size + 1 + 1) 45 #[.int .i64 0, .int .i64 0, .int .i64 0]) := by show Bb _ _ _ _; (repeat' (first | (with_reducible assumption) | (refine Bb.new (by first | (with_reducible rfl) | (simp; done))) | (with_reducible refine Bb.alloc ?_ _) | (with_reducible refine Bb.drew ?_) | (with_reducible refine Bb.drewN ?_ _) | (with_reducible refine Bb.mono ?_ (by assumption)) | (with_reducible refine Bb.far ?_ (by (try simp only [World.size_alloc, World.size_drew]); omega)) | (with_reducible refine Bb.set ?_ rfl) | (with_reducible refine Bb.grown ?_ (by assumption) (by assumption))))
    (try clear Ra)
    (try clear Xa)
    have Xa := Ya
    clear Ya
    (try clear Rb)
    (try clear Xb)
    have Xb := Yb
    clear Yb
    (try clear Rz)
    (try clear Xz)
    have Xz := Yz
    clear Yz
    have hB2 : Below w.heap.size w w2 := by (repeat' (first | (with_reducible exact Below.refl _ _) | (with_reducible assumption) | (with_reducible refine Below.alloc ?_ ?_ _) | (with_reducible refine Below.drew ?_) | (with_reducible refine bdN ?_ _) | (with_reducible refine Below.setCell ?_ ?_ _) | (with_reducible refine chn ?_ (by assumption) ?_) | omega | (simp; done) | (simp; omega)))
    clear hb2
    have ca0 := Xa.out.c 0 rfl
    have ca1 := Xa.out.c 1 rfl
    have ca2 := Xa.out.c 2 rfl
    have la := Xa.out.lt
    have cb0 := Xb.out.c 0 rfl
    have cb1 := Xb.out.c 1 rfl
    have cb2 := Xb.out.c 2 rfl
    have lb := Xb.out.lt
    have cz0 := Xz.out.c 0 rfl
    have cz1 := Xz.out.c 1 rfl
    have cz2 := Xz.out.c 2 rfl
    have lz := Xz.out.lt
    have fz := Xz.out.f
    go_wp2_with (fail)
    refine bodyPost_ret (v := .tuple #[.agg #[.int .i64 0, .int .i64 0, .int .i64 0], .bool false]) (by first | (simp [results, Try.results30, go_sem, *]; done) | (simp (disch := (first | omega | (simp; done) | (simp; omega))) [results, Try.results30, go_sem, *]; done) | (simp only [results, Try.results30]; go_simp; done)) rfl ⟨rfl, ?_⟩
    (repeat' (first | (with_reducible exact Below.refl _ _) | (with_reducible assumption) | (with_reducible refine Below.alloc ?_ ?_ _) | (with_reducible refine Below.drew ?_) | (with_reducible refine bdN ?_ _) | (with_reducible refine Below.setCell ?_ ?_ _) | (with_reducible refine chn ?_ (by assumption) ?_) | omega | (simp; done) | (simp; omega)))

set_option maxRecDepth 100000 in
set_option maxHeartbeats 4000000 in
theorem mp_s_f {n : Int} {x y : PauliV} (h : (pB n x && pB n y) = false) (w : World) :
    Calls Try.prog 29 #[.int .i64 n, x.v, y.v] w fun ee w' => ee = .returned (.tuple #[PauliV.z.v, .bool false]) ∧ Below w.heap.size w w' := by
  rcases pB_and h with hx | ⟨hx, hy⟩
  · have HX := lay hx
    clear h hx
    go_enter Try.func29, Try.ntmps29
    go_wp2_with (fail)
    refine (l7v (x := x) HX.out _).mono ?_
    rintro ee w1 ⟨rfl, hb1⟩
    have hz1 := hb1.size
    (try simp only [World.size_alloc] at hz1)
    have Ya : Hid (Bb w1 (w.heap.size) 45 #[.int .i64 x.f0, .int .i64 x.f1, .int .i64 x.f2]) := by show Bb _ _ _ _; (repeat' (first | (with_reducible assumption) | (refine Bb.new (by first | (with_reducible rfl) | (simp; done))) | (with_reducible refine Bb.alloc ?_ _) | (with_reducible refine Bb.drew ?_) | (with_reducible refine Bb.drewN ?_ _) | (with_reducible refine Bb.mono ?_ (by assumption)) | (with_reducible refine Bb.far ?_ (by (try simp only [World.size_alloc, World.size_drew]); omega)) | (with_reducible refine Bb.set ?_ rfl) | (with_reducible refine Bb.grown ?_ (by assumption) (by assumption))))
    have Yb : Hid (Bb w1 (w.heap.size + 1) 45 #[.int .i64 y.f0, .int .i64 y.f1, .int .i64 y.f2]) := by show Bb _ _ _ _; (repeat' (first | (with_reducible assumption) | (refine Bb.new (by first | (with_reducible rfl) | (simp; done))) | (with_reducible refine Bb.alloc ?_ _) | (with_reducible refine Bb.drew ?_) | (with_reducible refine Bb.drewN ?_ _) | (with_reducible refine Bb.mono ?_ (by assumption)) | (with_reducible refine Bb.far ?_ (by (try simp only [World.size_alloc, World.size_drew]); omega)) | (with_reducible refine Bb.set ?_ rfl) | (with_reducible refine Bb.grown ?_ (by assumption) (by assumption))))
    have Yz : Hid (Bb w1 (w.heap.size + 1 + 1) 45 #[.int .i64 0, .int .i64 0, .int .i64 0]) := by show Bb _ _ _ _; (repeat' (first | (with_reducible assumption) | (refine Bb.new (by first | (with_reducible rfl) | (simp; done))) | (with_reducible refine Bb.alloc ?_ _) | (with_reducible refine Bb.drew ?_) | (with_reducible refine Bb.drewN ?_ _) | (with_reducible refine Bb.mono ?_ (by assumption)) | (with_reducible refine Bb.far ?_ (by (try simp only [World.size_alloc, World.size_drew]); omega)) | (with_reducible refine Bb.set ?_ rfl) | (with_reducible refine Bb.grown ?_ (by assumption) (by assumption))))
    (try clear Ra)
    (try clear Xa)
    have Xa := Ya
    clear Ya
    (try clear Rb)
    (try clear Xb)
    have Xb := Yb
    clear Yb
    (try clear Rz)
    (try clear Xz)
    have Xz := Yz
    clear Yz
    have hB1 : Below w.heap.size w w1 := by (repeat' (first | (with_reducible exact Below.refl _ _) | (with_reducible assumption) | (with_reducible refine Below.alloc ?_ ?_ _) | (with_reducible refine Below.drew ?_) | (with_reducible refine bdN ?_ _) | (with_reducible refine Below.setCell ?_ ?_ _) | (with_reducible refine chn ?_ (by assumption) ?_) | omega | (simp; done) | (simp; omega)))
    clear hb1
    have ca0 := Xa.out.c 0 rfl
    have ca1 := Xa.out.c 1 rfl
    have ca2 := Xa.out.c 2 rfl
    have la := Xa.out.lt
    have cb0 := Xb.out.c 0 rfl
    have cb1 := Xb.out.c 1 rfl
    have cb2 := Xb.out.c 2 rfl
    have lb := Xb.out.lt
    have cz0 := Xz.out.c 0 rfl
    have cz1 := Xz.out.c 1 rfl
    have cz2 := Xz.out.c 2 rfl
    have lz := Xz.out.lt
    have fz := Xz.out.f
    go_wp2_with (fail)
    refine bodyPost_ret (v := .tuple #[.agg #[.int .i64 0, .int .i64 0, .int .i64 0], .bool false]) (by first | (simp [results, Try.results29, go_sem, *]; done) | (simp (disch := (first | omega | (simp; done) | (simp; omega))) [results, Try.results29, go_sem, *]; done) | (simp only [results, Try.results29]; go_simp; done)) rfl ⟨rfl, ?_⟩
    (repeat' (first | (with_reducible exact Below.refl _ _) | (with_reducible assumption) | (with_reducible refine Below.alloc ?_ ?_ _) | (with_reducible refine Below.drew ?_) | (with_reducible refine bdN ?_ _) | (with_reducible refine Below.setCell ?_ ?_ _) | (with_reducible refine chn ?_ (by assumption) ?_) | omega | (simp; done) | (simp; omega)))
  · have HX := lay hx
    have HY := lay hy
    clear h hx hy
    go_enter Try.func29, Try.ntmps29
    go_wp2_with (fail)
    refine (l7v (x := x) HX.out _).mono ?_
    rintro ee w1 ⟨rfl, hb1⟩
    have hz1 := hb1.size
    (try simp only [World.size_alloc] at hz1)
    have Ya : Hid (Bb w1 (w.heap.size) 45 #[.int .i64 x.f0, .int .i64 x.f1, .int .i64 x.f2]) := by show Bb _ _ _ _; (repeat' (first | (with_reducible assumption) | (refine Bb.new (by first | (with_reducible rfl) | (simp; done))) | (with_reducible refine Bb.alloc ?_ _) | (with_reducible refine Bb.drew ?_) | (with_reducible refine Bb.drewN ?_ _) | (with_reducible refine Bb.mono ?_ (by assumption)) | (with_reducible refine Bb.far ?_ (by (try simp only [World.size_alloc, World.size_drew]); omega)) | (with_reducible refine Bb.set ?_ rfl) | (with_reducible refine Bb.grown ?_ (by assumption) (by assumption))))
    have Yb : Hid (Bb w1 (w.heap.size + 1) 45 #[.int .i64 y.f0, .int .i64 y.f1, .int .i64 y.f2]) := by show Bb _ _ _ _; (repeat' (first | (with_reducible assumption) | (refine Bb.new (by first | (with_reducible rfl) | (simp; done))) | (with_reducible refine Bb.alloc ?_ _) | (with_reducible refine Bb.drew ?_) | (with_reducible refine Bb.drewN ?_ _) | (with_reducible refine Bb.mono ?_ (by assumption)) | (with_reducible refine Bb.far ?_ (by (try simp only [World.size_alloc, World.size_drew]); omega)) | (with_reducible refine Bb.set ?_ rfl) | (with_reducible refine Bb.grown ?_ (by assumption) (by assumption))))
    have Yz : Hid (Bb w1 (w.heap.size + 1 + 1) 45 #[.int .i64 0, .int .i64 0, .int .i64 0]) := by show Bb _ _ _ _; (repeat' (first | (with_reducible assumption) | (refine Bb.new (by first | (with_reducible rfl) | (simp; done))) | (with_reducible refine Bb.alloc ?_ _) | (with_reducible refine Bb.drew ?_) | (with_reducible refine Bb.drewN ?_ _) | (with_reducible refine Bb.mono ?_ (by assumption)) | (with_reducible refine Bb.far ?_ (by (try simp only [World.size_alloc, World.size_drew]); omega)) | (with_reducible refine Bb.set ?_ rfl) | (with_reducible refine Bb.grown ?_ (by assumption) (by assumption))))
    (try clear Ra)
    (try clear Xa)
    have Xa := Ya
    clear Ya
    (try clear Rb)
    (try clear Xb)
    have Xb := Yb
    clear Yb
    (try clear Rz)
    (try clear Xz)
    have Xz := Yz
    clear Yz
    have hB1 : Below w.heap.size w w1 := by (repeat' (first | (with_reducible exact Below.refl _ _) | (with_reducible assumption) | (with_reducible refine Below.alloc ?_ ?_ _) | (with_reducible refine Below.drew ?_) | (with_reducible refine bdN ?_ _) | (with_reducible refine Below.setCell ?_ ?_ _) | (with_reducible refine chn ?_ (by assumption) ?_) | omega | (simp; done) | (simp; omega)))
    clear hb1
    have ca0 := Xa.out.c 0 rfl
    have ca1 := Xa.out.c 1 rfl
    have ca2 := Xa.out.c 2 rfl
    have la := Xa.out.lt
    have cb0 := Xb.out.c 0 rfl
    have cb1 := Xb.out.c 1 rfl
    have cb2 := Xb.out.c 2 rfl
    have lb := Xb.out.lt
    have cz0 := Xz.out.c 0 rfl
    have cz1 := Xz.out.c 1 rfl
    have cz2 := Xz.out.c 2 rfl
    have lz := Xz.out.lt
    have fz := Xz.out.f
    go_wp2_with (fail)
    refine (l7v (x := y) HY.out _).mono ?_
    rintro ee w2 ⟨rfl, hb2⟩
    have hz2 := hb2.size
    (try simp only [World.size_alloc] at hz2)
    clear ca0 ca1 ca2 la cb0 cb1 cb2 lb cz0 cz1 cz2 lz fz
    have Ra := Xa.out
    have Rb := Xb.out
    have Rz := Xz.out
    have Ya : Hid (Bb w2 (w.heap.size) 45 #[.int .i64 x.f0, .int .i64 x.f1, .int .i64 x.f2]) := by show Bb _ _ _ _; (repeat' (first | (with_reducible assumption) | (refine Bb.new (by first | (with_reducible rfl) | (simp; done))) | (with_reducible refine Bb.alloc ?_ _) | (with_reducible refine Bb.drew ?_) | (with_reducible refine Bb.drewN ?_ _) | (with_reducible refine Bb.mono ?_ (by assumption)) | (with_reducible refine Bb.far ?_ (by (try simp only [World.size_alloc, World.size_drew]); omega)) | (with_reducible refine Bb.set ?_ rfl) | (with_reducible refine Bb.grown ?_ (by assumption) (by assumption))))
    have Yb : Hid (Bb w2 (w.heap.size + 1) 45 #[.int .i64 y.f0, .int .i64 y.f1, .int .i64 y.f2]) := by show Bb _ _ _ _; (repeat' (first | (with_reducible assumption) | (refine Bb.new (by first | (with_reducible rfl) | (simp; done))) | (with_reducible refine Bb.alloc ?_ _) | (with_reducible refine Bb.drew ?_) | (with_reducible refine Bb.drewN ?_ _) | (with_reducible refine Bb.mono ?_ (by assumption)) | (with_reducible refine Bb.far ?_ (by (try simp only [World.size_alloc, World.size_drew]); omega)) | (with_reducible refine Bb.set ?_ rfl) | (with_reducible refine Bb.grown ?_ (by assumption) (by assumption))))
    have Yz : Hid (Bb w2 (w.heap.size + 1 + 1) 45 #[.int .i64 0, .int .i64 0, .int .i64 0]) := by show Bb _ _ _ _; (repeat' (first | (with_reducible assumption) | (refine Bb.new (by first | (with_reducible rfl) | (simp; done))) | (with_reducible refine Bb.alloc ?_ _) | (with_reducible refine Bb.drew ?_) | (with_reducible refine Bb.drewN ?_ _) | (with_reducible refine Bb.mono ?_ (by assumption)) | (with_reducible refine Bb.far ?_ (by (try simp only [World.size_alloc, World.size_drew]); omega)) | (with_reducible refine Bb.set ?_ rfl) | (with_reducible refine Bb.grown ?_ (by assumption) (by assumption))))
    (try clear Ra)
    (try clear Xa)
    have Xa := Ya
    clear Ya
    (try clear Rb)
    (try clear Xb)
    have Xb := Yb
    clear Yb
    (try clear Rz)
    (try clear Xz)
    have Xz := Yz
    clear Yz
    have hB2 : Below w.heap.size w w2 := by (repeat' (first | (with_reducible exact Below.refl _ _) | (with_reducible assumption) | (with_reducible refine Below.alloc ?_ ?_ _) | (with_reducible refine Below.drew ?_) | (with_reducible refine bdN ?_ _) | (with_reducible refine Below.setCell ?_ ?_ _) | (with_reducible refine chn ?_ (by assumption) ?_) | omega | (simp; done) | (simp; omega)))
    clear hb2
    have ca0 := Xa.out.c 0 rfl
    have ca1 := Xa.out.c 1 rfl
    have ca2 := Xa.out.c 2 rfl
    have la := Xa.out.lt
    have cb0 := Xb.out.c 0 rfl
    have cb1 := Xb.out.c 1 rfl
    have cb2 := Xb.out.c 2 rfl
    have lb := Xb.out.lt
    have cz0 := Xz.out.c 0 rfl
    have cz1 := Xz.out.c 1 rfl
    have cz2 := Xz.out.c 2 rfl
    have lz := Xz.out.lt
    have fz := Xz.out.f
    go_wp2_with (fail)
    refine bodyPost_ret (v := .tuple #[.agg #[.int .i64 0, .int .i64 0, .int .i64 0], .bool false]) (by first | (simp [results, Try.results29, go_sem, *]; done) | (simp (disch := (first | omega | (simp; done) | (simp; omega))) [results, Try.results29, go_sem, *]; done) | (simp only [results, Try.results29]; go_simp; done)) rfl ⟨rfl, ?_⟩
    (repeat' (first | (with_reducible exact Below.refl _ _) | (with_reducible assumption) | (with_reducible refine Below.alloc ?_ ?_ _) | (with_reducible refine Below.drew ?_) | (with_reducible refine bdN ?_ _) | (with_reducible refine Below.setCell ?_ ?_ _) | (with_reducible refine chn ?_ (by assumption) ?_) | omega | (simp; done) | (simp; omega)))

set_option maxRecDepth 100000 in
set_option maxHeartbeats 4000000 in
theorem mp_s_t {k pa xa za pb xb zb : Nat} (q1 : 1 ≤ k) (q5 : k ≤ 5) (hpa : pa ≤ 3) (hpb : pb ≤ 3) (g1 : xa < 2 ^ k) (g2 : za < 2 ^ k) (g3 : xb < 2 ^ k) (g4 : zb < 2 ^ k) (w : World) :
    Calls Try.prog 29 #[.int .i64 (k : Int), pA pa xa za, pA pb xb zb] w fun ee w' => ee = .returned (.tuple #[(mulV pa xa za pb xb zb).v, .bool true]) ∧ Below w.heap.size w w' := by
  have HX := lay (pB_of q1 q5 hpa g1 g2)
  have HY := lay (pB_of q1 q5 hpb g3 g4)
  go_enter Try.func29, Try.ntmps29
  go_wp2_with (fail)
  refine (l7v (x := pv pa xa za) HX.out _).mono ?_
  rintro ee w1 ⟨rfl, hb1⟩
  have hz1 := hb1.size
  (try simp only [World.size_alloc] at hz1)
  have Ya : Hid (Bb w1 (w.heap.size) 45 #[.int .i64 (pa : Int), .int .i64 (xa : Int), .int .i64 (za : Int)]) := by show Bb _ _ _ _; (repeat' (first | (with_reducible assumption) | (refine Bb.new (by first | (with_reducible rfl) | (simp; done))) | (with_reducible refine Bb.alloc ?_ _) | (with_reducible refine Bb.drew ?_) | (with_reducible refine Bb.drewN ?_ _) | (with_reducible refine Bb.mono ?_ (by assumption)) | (with_reducible refine Bb.far ?_ (by (try simp only [World.size_alloc, World.size_drew]); omega)) | (with_reducible refine Bb.set ?_ rfl) | (with_reducible refine Bb.grown ?_ (by assumption) (by assumption))))
  have Yb : Hid (Bb w1 (w.heap.size + 1) 45 #[.int .i64 (pb : Int), .int .i64 (xb : Int), .int .i64 (zb : Int)]) := by show Bb _ _ _ _; (repeat' (first | (with_reducible assumption) | (refine Bb.new (by first | (with_reducible rfl) | (simp; done))) | (with_reducible refine Bb.alloc ?_ _) | (with_reducible refine Bb.drew ?_) | (with_reducible refine Bb.drewN ?_ _) | (with_reducible refine Bb.mono ?_ (by assumption)) | (with_reducible refine Bb.far ?_ (by (try simp only [World.size_alloc, World.size_drew]); omega)) | (with_reducible refine Bb.set ?_ rfl) | (with_reducible refine Bb.grown ?_ (by assumption) (by assumption))))
  have Yz : Hid (Bb w1 (w.heap.size + 1 + 1) 45 #[.int .i64 0, .int .i64 0, .int .i64 0]) := by show Bb _ _ _ _; (repeat' (first | (with_reducible assumption) | (refine Bb.new (by first | (with_reducible rfl) | (simp; done))) | (with_reducible refine Bb.alloc ?_ _) | (with_reducible refine Bb.drew ?_) | (with_reducible refine Bb.drewN ?_ _) | (with_reducible refine Bb.mono ?_ (by assumption)) | (with_reducible refine Bb.far ?_ (by (try simp only [World.size_alloc, World.size_drew]); omega)) | (with_reducible refine Bb.set ?_ rfl) | (with_reducible refine Bb.grown ?_ (by assumption) (by assumption))))
  (try clear Ra)
  (try clear Xa)
  have Xa := Ya
  clear Ya
  (try clear Rb)
  (try clear Xb)
  have Xb := Yb
  clear Yb
  (try clear Rz)
  (try clear Xz)
  have Xz := Yz
  clear Yz
  have hB1 : Below w.heap.size w w1 := by (repeat' (first | (with_reducible exact Below.refl _ _) | (with_reducible assumption) | (with_reducible refine Below.alloc ?_ ?_ _) | (with_reducible refine Below.drew ?_) | (with_reducible refine bdN ?_ _) | (with_reducible refine Below.setCell ?_ ?_ _) | (with_reducible refine chn ?_ (by assumption) ?_) | omega | (simp; done) | (simp; omega)))
  clear hb1
  have ca0 := Xa.out.c 0 rfl
  have ca1 := Xa.out.c 1 rfl
  have ca2 := Xa.out.c 2 rfl
  have la := Xa.out.lt
  have cb0 := Xb.out.c 0 rfl
  have cb1 := Xb.out.c 1 rfl
  have cb2 := Xb.out.c 2 rfl
  have lb := Xb.out.lt
  have cz0 := Xz.out.c 0 rfl
  have cz1 := Xz.out.c 1 rfl
  have cz2 := Xz.out.c 2 rfl
  have lz := Xz.out.lt
  have fz := Xz.out.f
  go_wp2_with (fail)
  refine (l7v (x := pv pb xb zb) HY.out _).mono ?_
  rintro ee w2 ⟨rfl, hb2⟩
  have hz2 := hb2.size
  (try simp only [World.size_alloc] at hz2)
  clear ca0 ca1 ca2 la cb0 cb1 cb2 lb cz0 cz1 cz2 lz fz
  have Ra := Xa.out
  have Rb := Xb.out
  have Rz := Xz.out
  have Ya : Hid (Bb w2 (w.heap.size) 45 #[.int .i64 (pa : Int), .int .i64 (xa : Int), .int .i64 (za : Int)]) := by show Bb _ _ _ _; (repeat' (first | (with_reducible assumption) | (refine Bb.new (by first | (with_reducible rfl) | (simp; done))) | (with_reducible refine Bb.alloc ?_ _) | (with_reducible refine Bb.drew ?_) | (with_reducible refine Bb.drewN ?_ _) | (with_reducible refine Bb.mono ?_ (by assumption)) | (with_reducible refine Bb.far ?_ (by (try simp only [World.size_alloc, World.size_drew]); omega)) | (with_reducible refine Bb.set ?_ rfl) | (with_reducible refine Bb.grown ?_ (by assumption) (by assumption))))
  have Yb : Hid (Bb w2 (w.heap.size + 1) 45 #[.int .i64 (pb : Int), .int .i64 (xb : Int), .int .i64 (zb : Int)]) := by show Bb _ _ _ _; (repeat' (first | (with_reducible assumption) | (refine Bb.new (by first | (with_reducible rfl) | (simp; done))) | (with_reducible refine Bb.alloc ?_ _) | (with_reducible refine Bb.drew ?_) | (with_reducible refine Bb.drewN ?_ _) | (with_reducible refine Bb.mono ?_ (by assumption)) | (with_reducible refine Bb.far ?_ (by (try simp only [World.size_alloc, World.size_drew]); omega)) | (with_reducible refine Bb.set ?_ rfl) | (with_reducible refine Bb.grown ?_ (by assumption) (by assumption))))
  have Yz : Hid (Bb w2 (w.heap.size + 1 + 1) 45 #[.int .i64 0, .int .i64 0, .int .i64 0]) := by show Bb _ _ _ _; (repeat' (first | (with_reducible assumption) | (refine Bb.new (by first | (with_reducible rfl) | (simp; done))) | (with_reducible refine Bb.alloc ?_ _) | (with_reducible refine Bb.drew ?_) | (with_reducible refine Bb.drewN ?_ _) | (with_reducible refine Bb.mono ?_ (by assumption)) | (with_reducible refine Bb.far ?_ (by (try simp only [World.size_alloc, World.size_drew]); omega)) | (with_reducible refine Bb.set ?_ rfl) | (with_reducible refine Bb.grown ?_ (by assumption) (by assumption))))
  (try clear Ra)
  (try clear Xa)
  have Xa := Ya
  clear Ya
  (try clear Rb)
  (try clear Xb)
  have Xb := Yb
  clear Yb
  (try clear Rz)
  (try clear Xz)
  have Xz := Yz
  clear Yz
  have hB2 : Below w.heap.size w w2 := by (repeat' (first | (with_reducible exact Below.refl _ _) | (with_reducible assumption) | (with_reducible refine Below.alloc ?_ ?_ _) | (with_reducible refine Below.drew ?_) | (with_reducible refine bdN ?_ _) | (with_reducible refine Below.setCell ?_ ?_ _) | (with_reducible refine chn ?_ (by assumption) ?_) | omega | (simp; done) | (simp; omega)))
  clear hb2
  have ca0 := Xa.out.c 0 rfl
  have ca1 := Xa.out.c 1 rfl
  have ca2 := Xa.out.c 2 rfl
  have la := Xa.out.lt
  have cb0 := Xb.out.c 0 rfl
  have cb1 := Xb.out.c 1 rfl
  have cb2 := Xb.out.c 2 rfl
  have lb := Xb.out.lt
  have cz0 := Xz.out.c 0 rfl
  have cz1 := Xz.out.c 1 rfl
  have cz2 := Xz.out.c 2 rfl
  have lz := Xz.out.lt
  have fz := Xz.out.f
  go_wp2_with (fail)
  refine (l7m (by omega) (by omega) (p32 q5 g1) (p32 q5 g2) (p32 q5 g3) (p32 q5 g4) _).mono ?_
  rintro ee w3 ⟨rfl, hb3⟩
  have hz3 := hb3.size
  (try simp only [World.size_alloc] at hz3)
  clear ca0 ca1 ca2 la cb0 cb1 cb2 lb cz0 cz1 cz2 lz fz
  have Ra := Xa.out
  have Rb := Xb.out
  have Rz := Xz.out
  have Ya : Hid (Bb w3 (w.heap.size) 45 #[.int .i64 (pa : Int), .int .i64 (xa : Int), .int .i64 (za : Int)]) := by show Bb _ _ _ _; (repeat' (first | (with_reducible assumption) | (refine Bb.new (by first | (with_reducible rfl) | (simp; done))) | (with_reducible refine Bb.alloc ?_ _) | (with_reducible refine Bb.drew ?_) | (with_reducible refine Bb.drewN ?_ _) | (with_reducible refine Bb.mono ?_ (by assumption)) | (with_reducible refine Bb.far ?_ (by (try simp only [World.size_alloc, World.size_drew]); omega)) | (with_reducible refine Bb.set ?_ rfl) | (with_reducible refine Bb.grown ?_ (by assumption) (by assumption))))
  have Yb : Hid (Bb w3 (w.heap.size + 1) 45 #[.int .i64 (pb : Int), .int .i64 (xb : Int), .int .i64 (zb : Int)]) := by show Bb _ _ _ _; (repeat' (first | (with_reducible assumption) | (refine Bb.new (by first | (with_reducible rfl) | (simp; done))) | (with_reducible refine Bb.alloc ?_ _) | (with_reducible refine Bb.drew ?_) | (with_reducible refine Bb.drewN ?_ _) | (with_reducible refine Bb.mono ?_ (by assumption)) | (with_reducible refine Bb.far ?_ (by (try simp only [World.size_alloc, World.size_drew]); omega)) | (with_reducible refine Bb.set ?_ rfl) | (with_reducible refine Bb.grown ?_ (by assumption) (by assumption))))
  have Yz : Hid (Bb w3 (w.heap.size + 1 + 1) 45 #[.int .i64 0, .int .i64 0, .int .i64 0]) := by show Bb _ _ _ _; (repeat' (first | (with_reducible assumption) | (refine Bb.new (by first | (with_reducible rfl) | (simp; done))) | (with_reducible refine Bb.alloc ?_ _) | (with_reducible refine Bb.drew ?_) | (with_reducible refine Bb.drewN ?_ _) | (with_reducible refine Bb.mono ?_ (by assumption)) | (with_reducible refine Bb.far ?_ (by (try simp only [World.size_alloc, World.size_drew]); omega)) | (with_reducible refine Bb.set ?_ rfl) | (with_reducible refine Bb.grown ?_ (by assumption) (by assumption))))
  (try clear Ra)
  (try clear Xa)
  have Xa := Ya
  clear Ya
  (try clear Rb)
  (try clear Xb)
  have Xb := Yb
  clear Yb
  (try clear Rz)
  (try clear Xz)
  have Xz := Yz
  clear Yz
  have hB3 : Below w.heap.size w w3 := by (repeat' (first | (with_reducible exact Below.refl _ _) | (with_reducible assumption) | (with_reducible refine Below.alloc ?_ ?_ _) | (with_reducible refine Below.drew ?_) | (with_reducible refine bdN ?_ _) | (with_reducible refine Below.setCell ?_ ?_ _) | (with_reducible refine chn ?_ (by assumption) ?_) | omega | (simp; done) | (simp; omega)))
  clear hb3
  have ca0 := Xa.out.c 0 rfl
  have ca1 := Xa.out.c 1 rfl
  have ca2 := Xa.out.c 2 rfl
  have la := Xa.out.lt
  have cb0 := Xb.out.c 0 rfl
  have cb1 := Xb.out.c 1 rfl
  have cb2 := Xb.out.c 2 rfl
  have lb := Xb.out.lt
  have cz0 := Xz.out.c 0 rfl
  have cz1 := Xz.out.c 1 rfl
  have cz2 := Xz.out.c 2 rfl
  have lz := Xz.out.lt
  have fz := Xz.out.f
  go_wp2_with (fail)
  refine bodyPost_ret (v := .tuple #[(mulV pa xa za pb xb zb).v, .bool true]) (by first | (simp [results, Try.results29, go_sem, *]; done) | (simp (disch := (first | omega | (simp; done) | (simp; omega))) [results, Try.results29, go_sem, *]; done) | (simp only [results, Try.results29]; go_simp; done)) rfl ⟨rfl, ?_⟩
  (repeat' (first | (with_reducible exact Below.refl _ _) | (with_reducible assumption) | (with_reducible refine Below.alloc ?_ ?_ _) | (with_reducible refine Below.drew ?_) | (with_reducible refine bdN ?_ _) | (with_reducible refine Below.setCell ?_ ?_ _) | (with_reducible refine chn ?_ (by assumption) ?_) | omega | (simp; done) | (simp; omega)))

set_option maxRecDepth 100000 in
set_option maxHeartbeats 4000000 in
theorem mp_i_t {k pa xa za pb xb zb : Nat} (q1 : 1 ≤ k) (q5 : k ≤ 5) (hpa : pa ≤ 3) (hpb : pb ≤ 3) (g1 : xa < 2 ^ k) (g2 : za < 2 ^ k) (g3 : xb < 2 ^ k) (g4 : zb < 2 ^ k) (w : World) :
    Calls Try.prog 30 #[.int .i64 (k : Int), pA pa xa za, pA pb xb zb] w fun ee w' => ee = .returned (.tuple #[(mulV pa xa za pb xb zb).v, .bool true]) ∧ Below w.heap.size w w' := by
  have HX := lay (pB_of q1 q5 hpa g1 g2)
  have HY := lay (pB_of q1 q5 hpb g3 g4)
  go_enter Try.func30, Try.ntmps30
  go_wp2_with (fail)
  refine (ivp (x := pv pa xa za) HX.out _).mono ?_
  rintro ee w1 ⟨rfl, hb1⟩
  have hz1 := hb1.size
  (try simp only [World.size_alloc] at hz1)
  have Ya : Hid (Bb w1 (w.heap.size) 45 #[.int .i64 (pa : Int), .int .i64 (xa : Int), .int .i64 (za : Int)]) := by show Bb _ _ _ _; (repeat' (first | (with_reducible assumption) | (refine Bb.new (by first | (with_reducible rfl) | (simp; done))) | (with_reducible refine Bb.alloc ?_ _) | (with_reducible refine Bb.drew ?_) | (with_reducible refine Bb.drewN ?_ _) | (with_reducible refine Bb.mono ?_ (by assumption)) | (with_reducible refine Bb.far ?_ (by (try simp only [World.size_alloc, World.size_drew]); omega)) | (with_reducible refine Bb.set ?_ rfl) | (with_reducible refine Bb.grown ?_ (by assumption) (by assumption))))
  have Yb : Hid (Bb w1 (w.heap.size + 1) 45 #[.int .i64 (pb : Int), .int .i64 (xb : Int), .int .i64 (zb : Int)]) := by show Bb _ _ _ _; (repeat' (first | (with_reducible assumption) | (refine Bb.new (by first | (with_reducible rfl) | (simp; done))) | (with_reducible refine Bb.alloc ?_ _) | (with_reducible refine Bb.drew ?_) | (with_reducible refine Bb.drewN ?_ _) | (with_reducible refine Bb.mono ?_ (by assumption)) | (with_reducible refine Bb.far ?_ (by (try simp only [World.size_alloc, World.size_drew]); omega)) | (with_reducible refine Bb.set ?_ rfl) | (with_reducible refine Bb.grown ?_ (by assumption) (by assumption))))
  have Yz : Hid (Bb w1 (w.heap.size + 1 + 1) 45 #[.int .i64 0, .int .i64 0, .int .i64 0]) := by show Bb _ _ _ _; (repeat' (first | (with_reducible assumption) | (refine Bb.new (by first | (with_reducible rfl) | (simp; done))) | (with_reducible refine Bb.alloc ?_ _) | (with_reducible refine Bb.drew ?_) | (with_reducible refine Bb.drewN ?_ _) | (with_reducible refine Bb.mono ?_ (by assumption)) | (with_reducible refine Bb.far ?_ (by (try simp only [World.size_alloc, World.size_drew]); omega)) | (with_reducible refine Bb.set ?_ rfl) | (with_reducible refine Bb.grown ?_ (by assumption) (by assumption))))
  (try clear Ra)
  (try clear Xa)
  have Xa := Ya
  clear Ya
  (try clear Rb)
  (try clear Xb)
  have Xb := Yb
  clear Yb
  (try clear Rz)
  (try clear Xz)
  have Xz := Yz
  clear Yz
  have hB1 : Below w.heap.size w w1 := by (repeat' (first | (with_reducible exact Below.refl _ _) | (with_reducible assumption) | (with_reducible refine Below.alloc ?_ ?_ _) | (with_reducible refine Below.drew ?_) | (with_reducible refine bdN ?_ _) | (with_reducible refine Below.setCell ?_ ?_ _) | (with_reducible refine chn ?_ (by assumption) ?_) | omega | (simp; done) | (simp; omega)))
  clear hb1
  have ca0 := Xa.out.c 0 rfl
  have ca1 := Xa.out.c 1 rfl
  have ca2 := Xa.out.c 2 rfl
  have la := Xa.out.lt
  have cb0 := Xb.out.c 0 rfl
  have cb1 := Xb.out.c 1 rfl
  have cb2 := Xb.out.c 2 rfl
  have lb := Xb.out.lt
  have cz0 := Xz.out.c 0 rfl
  have cz1 := Xz.out.c 1 rfl
  have cz2 := Xz.out.c 2 rfl
  have lz := Xz.out.lt
  have fz := Xz.out.f
  go_wp2_with (fail)
  refine (ivp (x := pv pb xb zb) HY.out _).mono ?_
  rintro ee w2 ⟨rfl, hb2⟩
  have hz2 := hb2.size
  (try simp only [World.size_alloc] at hz2)
  clear ca0 ca1 ca2 la cb0 cb1 cb2 lb cz0 cz1 cz2 lz fz
  have Ra := Xa.out
  have Rb := Xb.out
  have Rz := Xz.out
  have Ya : Hid (Bb w2 (w.heap.size) 45 #[.int .i64 (pa : Int), .int .i64 (xa : Int), .int .i64 (za : Int)]) := by show Bb _ _ _ _; (repeat' (first | (with_reducible assumption) | (refine Bb.new (by first | (with_reducible rfl) | (simp; done))) | (with_reducible refine Bb.alloc ?_ _) | (with_reducible refine Bb.drew ?_) | (with_reducible refine Bb.drewN ?_ _) | (with_reducible refine Bb.mono ?_ (by assumption)) | (with_reducible refine Bb.far ?_ (by (try simp only [World.size_alloc, World.size_drew]); omega)) | (with_reducible refine Bb.set ?_ rfl) | (with_reducible refine Bb.grown ?_ (by assumption) (by assumption))))
  have Yb : Hid (Bb w2 (w.heap.size + 1) 45 #[.int .i64 (pb : Int), .int .i64 (xb : Int), .int .i64 (zb : Int)]) := by show Bb _ _ _ _; (repeat' (first | (with_reducible assumption) | (refine Bb.new (by first | (with_reducible rfl) | (simp; done))) | (with_reducible refine Bb.alloc ?_ _) | (with_reducible refine Bb.drew ?_) | (with_reducible refine Bb.drewN ?_ _) | (with_reducible refine Bb.mono ?_ (by assumption)) | (with_reducible refine Bb.far ?_ (by (try simp only [World.size_alloc, World.size_drew]); omega)) | (with_reducible refine Bb.set ?_ rfl) | (with_reducible refine Bb.grown ?_ (by assumption) (by assumption))))
  have Yz : Hid (Bb w2 (w.heap.size + 1 + 1) 45 #[.int .i64 0, .int .i64 0, .int .i64 0]) := by show Bb _ _ _ _; (repeat' (first | (with_reducible assumption) | (refine Bb.new (by first | (with_reducible rfl) | (simp; done))) | (with_reducible refine Bb.alloc ?_ _) | (with_reducible refine Bb.drew ?_) | (with_reducible refine Bb.drewN ?_ _) | (with_reducible refine Bb.mono ?_ (by assumption)) | (with_reducible refine Bb.far ?_ (by (try simp only [World.size_alloc, World.size_drew]); omega)) | (with_reducible refine Bb.set ?_ rfl) | (with_reducible refine Bb.grown ?_ (by assumption) (by assumption))))
  (try clear Ra)
  (try clear Xa)
  have Xa := Ya
  clear Ya
  (try clear Rb)
  (try clear Xb)
  have Xb := Yb
  clear Yb
  (try clear Rz)
  (try clear Xz)
  have Xz := Yz
  clear Yz
  have hB2 : Below w.heap.size w w2 := by (repeat' (first | (with_reducible exact Below.refl _ _) | (with_reducible assumption) | (with_reducible refine Below.alloc ?_ ?_ _) | (with_reducible refine Below.drew ?_) | (with_reducible refine bdN ?_ _) | (with_reducible refine Below.setCell ?_ ?_ _) | (with_reducible refine chn ?_ (by assumption) ?_) | omega | (simp; done) | (simp; omega)))
  clear hb2
  have ca0 := Xa.out.c 0 rfl
  have ca1 := Xa.out.c 1 rfl
  have ca2 := Xa.out.c 2 rfl
  have la := Xa.out.lt
  have cb0 := Xb.out.c 0 rfl
  have cb1 := Xb.out.c 1 rfl
  have cb2 := Xb.out.c 2 rfl
  have lb := Xb.out.lt
  have cz0 := Xz.out.c 0 rfl
  have cz1 := Xz.out.c 1 rfl
  have cz2 := Xz.out.c 2 rfl
  have lz := Xz.out.lt
  have fz := Xz.out.f
  go_wp2_with (fail)
  have yca0 : w2.drew.cell? ⟨w.heap.size, 0, none⟩ = some (.int .i64 (pa : Int)) := ca0
  have yca1 : w2.drew.cell? ⟨w.heap.size, 1, none⟩ = some (.int .i64 (xa : Int)) := ca1
  have yca2 : w2.drew.cell? ⟨w.heap.size, 2, none⟩ = some (.int .i64 (za : Int)) := ca2
  have ycb0 : w2.drew.cell? ⟨w.heap.size + 1, 0, none⟩ = some (.int .i64 (pb : Int)) := cb0
  have ycb1 : w2.drew.cell? ⟨w.heap.size + 1, 1, none⟩ = some (.int .i64 (xb : Int)) := cb1
  have ycb2 : w2.drew.cell? ⟨w.heap.size + 1, 2, none⟩ = some (.int .i64 (zb : Int)) := cb2
  refine wp_region_x (fun w' => w'.cell? ⟨w.heap.size, 0, none⟩ = some (.int .i64 (pa : Int)) ∧ w'.cell? ⟨w.heap.size, 1, none⟩ = some (.int .i64 (xa : Int)) ∧ w'.cell? ⟨w.heap.size, 2, none⟩ = some (.int .i64 (za : Int)) ∧ w'.cell? ⟨w.heap.size + 1, 0, none⟩ = some (.int .i64 (pb : Int)) ∧ w'.cell? ⟨w.heap.size + 1, 1, none⟩ = some (.int .i64 (xb : Int)) ∧ w'.cell? ⟨w.heap.size + 1, 2, none⟩ = some (.int .i64 (zb : Int))) 1000 (by kernel_rfl) ⟨yca0, yca1, yca2, ycb0, ycb1, ycb2⟩ (fun hS0 => ?_)
  refine wpAnyX_take (i := 1) (oi := _) (v := ?_) rfl (by kernel_rfl) (by kernel_rfl) (by kernel_rfl) (by kernel_rfl) (fun _ _ _ h => h) (Or.inl ⟨by rfl, ?_⟩) hS0 ?_
  rotate_left 1
  · (intro w hSw; (try dsimp only at hSw); go_simp; (try with_reducible rfl))
  try simp only [Act.put, List.setIfInBounds_toArray, List.set_cons_zero, List.set_cons_succ]
  refine wpAnyX_take (i := 2) (oi := _) (v := ?_) rfl (by kernel_rfl) (by kernel_rfl) (by kernel_rfl) (by kernel_rfl) (fun _ _ _ h => h) (Or.inl ⟨by rfl, ?_⟩) hS0 ?_
  rotate_left 1
  · (intro w hSw; (try dsimp only at hSw); go_simp; (try with_reducible rfl))
  try simp only [Act.put, List.setIfInBounds_toArray, List.set_cons_zero, List.set_cons_succ]
  refine wpAnyX_take (i := 3) (oi := _) (v := ?_) rfl (by kernel_rfl) (by kernel_rfl) (by kernel_rfl) (by kernel_rfl) (fun _ _ _ h => h) (Or.inl ⟨by rfl, ?_⟩) hS0 ?_
  rotate_left 1
  · (intro w hSw; (try dsimp only at hSw); go_simp; (try with_reducible rfl))
  try simp only [Act.put, List.setIfInBounds_toArray, List.set_cons_zero, List.set_cons_succ]
  refine wpAnyX_one (i := 0) (o := _) rfl (by kernel_rfl) (fun K hK => ?_)
  go_simp
  refine (nlp _).mono ?_
  rintro ee w8 ⟨r, rfl, hP8, hr8, hb8⟩
  refine hK.out _ _ (fun _ => ?_) (fun hS1 => ?_)
  · exact ⟨kcl hb8 (hS0.1), kcl hb8 (hS0.2.1), kcl hb8 (hS0.2.2.1), kcl hb8 (hS0.2.2.2.1), kcl hb8 (hS0.2.2.2.2.1), kcl hb8 (hS0.2.2.2.2.2)⟩
  clear hK K
  have hS1 := hS1 (by decide)
  try simp only [Act.put, List.setIfInBounds_toArray, List.set_cons_zero, List.set_cons_succ]
  refine wpAnyX_one (i := 4) (o := _) rfl (by kernel_rfl) (fun K hK => ?_)
  go_simp
  refine (iml (by omega) (by omega) q5 g1 g2 g3 g4 hP8).mono ?_
  rintro ee w9 ⟨rfl, hb9⟩
  refine hK.out _ _ (fun _ => ?_) (fun hS2 => ?_)
  · exact ⟨kcl hb9 (hS1.1), kcl hb9 (hS1.2.1), kcl hb9 (hS1.2.2.1), kcl hb9 (hS1.2.2.2.1), kcl hb9 (hS1.2.2.2.2.1), kcl hb9 (hS1.2.2.2.2.2)⟩
  clear hK K
  have hS2 := hS2 (by decide)
  try simp only [Act.put, List.setIfInBounds_toArray, List.set_cons_zero, List.set_cons_succ]
  refine wpAnyX_one (i := 5) (o := _) rfl (by kernel_rfl) (fun K hK => ?_)
  have hW8 : Below w2.heap.size w2 w9 := by
    have k8 : Below w2.heap.size w2 w8 := ⟨hb8.os, hb8.tape, hb8.output, hb8.size, hb8.block⟩
    exact chn k8 hb9 k8.size
  have xz9 := Xz.out.mono hW8
  have fz8 := xz9.f
  have cz90 := xz9.c 0 rfl
  have cz91 := xz9.c 1 rfl
  have cz92 := xz9.c 2 rfl
  go_simp
  refine hK.out _ _ (fun _ => ?_) (fun hS3 => ?_)
  · exact ⟨kclS3 (by omega) (hS2.1), kclS3 (by omega) (hS2.2.1), kclS3 (by omega) (hS2.2.2.1), kclS3 (by omega) (hS2.2.2.2.1), kclS3 (by omega) (hS2.2.2.2.2.1), kclS3 (by omega) (hS2.2.2.2.2.2)⟩
  clear hK K
  have hS3 := hS3 (by decide)
  try simp only [Act.put, List.setIfInBounds_toArray, List.set_cons_zero, List.set_cons_succ]
  refine wpAnyX_take (i := 6) (oi := _) (v := ?_) rfl (by kernel_rfl) (by kernel_rfl) (by kernel_rfl) (by kernel_rfl) (fun _ _ _ h => h) (Or.inl ⟨by rfl, ?_⟩) hS3 ?_
  rotate_left 1
  · (intro w hSw; (try dsimp only at hSw); go_simp; (try with_reducible rfl))
  change wpAnyX _ _ _ _ _ _ _ _ (Act.put _ (some 7) _) _
  try simp only [Act.put, List.setIfInBounds_toArray, List.set_cons_zero, List.set_cons_succ]
  refine wpAnyX_done (by kernel_rfl) ?_ _
  go_wp2_with (fail)
  refine bodyPost_ret (v := .tuple #[(mulV pa xa za pb xb zb).v, .bool true]) (by first | (simp [results, Try.results30, go_sem, *]; done) | (simp (disch := (first | omega | (simp; done) | (simp; omega))) [results, Try.results30, go_sem, *]; done) | (simp only [results, Try.results30]; go_simp; done)) rfl ⟨rfl, ?_⟩
  have hB9 := chn hB2 hW8 hB2.size
  (repeat' (first | (with_reducible exact Below.refl _ _) | (with_reducible assumption) | (with_reducible refine Below.alloc ?_ ?_ _) | (with_reducible refine Below.drew ?_) | (with_reducible refine bdN ?_ _) | (with_reducible refine Below.setCell ?_ ?_ _) | (with_reducible refine chn ?_ (by assumption) ?_) | omega | (simp; done) | (simp; omega)))

end Go.Proofs.Ytgcligmpdlffoaa.C4
