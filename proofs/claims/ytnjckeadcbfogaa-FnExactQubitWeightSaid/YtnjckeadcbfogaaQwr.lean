/- QubitWeight refused. -/
import Derived.Test.YtnjckeadcbfogaaSc
import Derived.Test.YtnjckeadcbfogaaZp2
import Derived.Test.YtnjckeadcbfogaaZp25
namespace Go.Proofs.Ytnjckeadcbfogaa
open Go.RowKit RM
set_option linter.unusedVariables false
set_option linter.unusedSimpArgs false
attribute [local irreducible] World.setCell

open GM
set_option maxRecDepth 100000 in
set_option maxHeartbeats 8000000 in
theorem qw_s_f {a0 s e9 : Int} {A : Option Addr} {m c : Nat} {r t : Int} {k : Nat} {zs : List D5} {w : World} (h1 : ∀ W : World, Below w.heap.size w W → Calls Try.prog 36 #[C4.circuitV a0 A m c, .int .i64 s] W fun ee w' => ∃ (Bo : Option Addr) (cq : Nat), ee = .returned (mt r t Bo k cq false) ∧ Rd w' Bo zs ∧ Below W.heap.size W w') :
    Calls Try.prog 45 #[C4.circuitV a0 A m c, .int .i64 s, .int .i64 e9] w fun ee w' => ee = .returned (dt 0 0 0 0 0 false) ∧ Below w.heap.size w w' := by
  have H1 := hid h1
  clear h1
  go_enter Try.func45, Try.ntmps45
  go_wp2_with (fail)
  refine (H1.out _ (by (repeat' (first | (with_reducible exact Below.refl _ _) | (with_reducible assumption) | (with_reducible refine Below.alloc ?_ ?_ _) | (with_reducible refine Below.drew ?_) | (with_reducible refine below_drewN ?_ _) | (with_reducible refine Below.setCell ?_ ?_ _) | (with_reducible refine chain ?_ (by assumption) ?_) | omega | (simp; done) | (simp; omega))))).mono ?_
  rintro ee w1 ⟨Bo1, cq1, rfl, hR1, hb1⟩
  have Xa1 : Bx w1 (w.heap.size) 45 #[.int .i64 a0, .slice A m c] := by (repeat' (first | (with_reducible assumption) | (refine Bx.new (by first | (with_reducible rfl) | (simp; done))) | (with_reducible refine Bx.alloc ?_ _) | (with_reducible refine Bx.drew ?_) | (with_reducible refine Bx.drewN ?_ _) | (with_reducible refine Bx.mono ?_ (by assumption)) | (with_reducible refine Bx.badly ?_ (by assumption) (by omega)) | (with_reducible refine Bx.far ?_ (by (try simp only [World.size_alloc, World.size_drew]); omega)) | (with_reducible refine Bx.set ?_ rfl) | (with_reducible refine Bx.grown ?_ (by assumption) (by assumption))))
  have Xz1 : Bx w1 (w.heap.size + 1) 59 #[.int .i64 0, .int .i64 0, .int .i64 0, .int .i64 0, .int .i64 0] := by (repeat' (first | (with_reducible assumption) | (refine Bx.new (by first | (with_reducible rfl) | (simp; done))) | (with_reducible refine Bx.alloc ?_ _) | (with_reducible refine Bx.drew ?_) | (with_reducible refine Bx.drewN ?_ _) | (with_reducible refine Bx.mono ?_ (by assumption)) | (with_reducible refine Bx.badly ?_ (by assumption) (by omega)) | (with_reducible refine Bx.far ?_ (by (try simp only [World.size_alloc, World.size_drew]); omega)) | (with_reducible refine Bx.set ?_ rfl) | (with_reducible refine Bx.grown ?_ (by assumption) (by assumption))))
  have hz1 := hb1.size
  (try simp only [World.size_alloc] at hz1)
  have hw1 : Below w.heap.size w w1 := by (repeat' (first | (with_reducible exact Below.refl _ _) | (with_reducible assumption) | (with_reducible refine Below.alloc ?_ ?_ _) | (with_reducible refine Below.drew ?_) | (with_reducible refine below_drewN ?_ _) | (with_reducible refine Below.setCell ?_ ?_ _) | (with_reducible refine chain ?_ (by assumption) ?_) | omega | (simp; done) | (simp; omega)))
  have HR1 := hid hR1
  have a0' := Xa1.c 0 rfl
  have a1' := Xa1.c 1 rfl
  have la := Xa1.lt
  have lz := Xz1.lt
  have fz := Xz1.f
  have z0' := Xz1.c 0 rfl
  have z1' := Xz1.c 1 rfl
  have z2' := Xz1.c 2 rfl
  have z3' := Xz1.c 3 rfl
  have z4' := Xz1.c 4 rfl
  clear hb1 hR1
  go_wp2_with (fail)
  refine bodyPost_ret (v := dt 0 0 0 0 0 false) (by first | (simp [results, Try.results45, go_sem, *]; done) | (simp (disch := (first | omega | (simp; done) | (simp; omega))) [results, Try.results45, go_sem, *]; done) | (simp only [results, Try.results45]; go_simp; done)) rfl ⟨rfl, ?_⟩
  (repeat' (first | (with_reducible exact Below.refl _ _) | (with_reducible assumption) | (with_reducible refine Below.alloc ?_ ?_ _) | (with_reducible refine Below.drew ?_) | (with_reducible refine below_drewN ?_ _) | (with_reducible refine Below.setCell ?_ ?_ _) | (with_reducible refine chain ?_ (by assumption) ?_) | omega | (simp; done) | (simp; omega)))

set_option maxRecDepth 100000 in
set_option maxHeartbeats 8000000 in
theorem qw_s_r {n : Nat} {s e9 : Int} {A : Option Addr} {m c : Nat} {r t : Int} {k : Nat} {zs : List D5} {w : World} (h1 : ∀ W : World, Below w.heap.size w W → Calls Try.prog 36 #[C4.circuitV (n : Int) A m c, .int .i64 s] W fun ee w' => ∃ (Bo : Option Addr) (cq : Nat), ee = .returned (mt r t Bo k cq true) ∧ Rd w' Bo zs ∧ Below W.heap.size W w') (q1 : 1 ≤ n) (q5 : n ≤ 5) (hr : C4.inB e9 0 ((n : Int) - 1) = false) :
    Calls Try.prog 45 #[C4.circuitV (n : Int) A m c, .int .i64 s, .int .i64 e9] w fun ee w' => ee = .returned (dt 0 0 0 0 0 false) ∧ Below w.heap.size w w' := by
  have HQ := hid hr
  clear hr
  have H1 := hid h1
  clear h1
  go_enter Try.func45, Try.ntmps45
  go_wp2_with (fail)
  refine (H1.out _ (by (repeat' (first | (with_reducible exact Below.refl _ _) | (with_reducible assumption) | (with_reducible refine Below.alloc ?_ ?_ _) | (with_reducible refine Below.drew ?_) | (with_reducible refine below_drewN ?_ _) | (with_reducible refine Below.setCell ?_ ?_ _) | (with_reducible refine chain ?_ (by assumption) ?_) | omega | (simp; done) | (simp; omega))))).mono ?_
  rintro ee w1 ⟨Bo1, cq1, rfl, hR1, hb1⟩
  have Xa1 : Bx w1 (w.heap.size) 45 #[.int .i64 (n : Int), .slice A m c] := by (repeat' (first | (with_reducible assumption) | (refine Bx.new (by first | (with_reducible rfl) | (simp; done))) | (with_reducible refine Bx.alloc ?_ _) | (with_reducible refine Bx.drew ?_) | (with_reducible refine Bx.drewN ?_ _) | (with_reducible refine Bx.mono ?_ (by assumption)) | (with_reducible refine Bx.badly ?_ (by assumption) (by omega)) | (with_reducible refine Bx.far ?_ (by (try simp only [World.size_alloc, World.size_drew]); omega)) | (with_reducible refine Bx.set ?_ rfl) | (with_reducible refine Bx.grown ?_ (by assumption) (by assumption))))
  have Xz1 : Bx w1 (w.heap.size + 1) 59 #[.int .i64 0, .int .i64 0, .int .i64 0, .int .i64 0, .int .i64 0] := by (repeat' (first | (with_reducible assumption) | (refine Bx.new (by first | (with_reducible rfl) | (simp; done))) | (with_reducible refine Bx.alloc ?_ _) | (with_reducible refine Bx.drew ?_) | (with_reducible refine Bx.drewN ?_ _) | (with_reducible refine Bx.mono ?_ (by assumption)) | (with_reducible refine Bx.badly ?_ (by assumption) (by omega)) | (with_reducible refine Bx.far ?_ (by (try simp only [World.size_alloc, World.size_drew]); omega)) | (with_reducible refine Bx.set ?_ rfl) | (with_reducible refine Bx.grown ?_ (by assumption) (by assumption))))
  have hz1 := hb1.size
  (try simp only [World.size_alloc] at hz1)
  have hw1 : Below w.heap.size w w1 := by (repeat' (first | (with_reducible exact Below.refl _ _) | (with_reducible assumption) | (with_reducible refine Below.alloc ?_ ?_ _) | (with_reducible refine Below.drew ?_) | (with_reducible refine below_drewN ?_ _) | (with_reducible refine Below.setCell ?_ ?_ _) | (with_reducible refine chain ?_ (by assumption) ?_) | omega | (simp; done) | (simp; omega)))
  have HR1 := hid hR1
  have a0' := Xa1.c 0 rfl
  have a1' := Xa1.c 1 rfl
  have la := Xa1.lt
  have lz := Xz1.lt
  have fz := Xz1.f
  have z0' := Xz1.c 0 rfl
  have z1' := Xz1.c 1 rfl
  have z2' := Xz1.c 2 rfl
  have z3' := Xz1.c 3 rfl
  have z4' := Xz1.c 4 rfl
  clear hb1 hR1
  have e3 : IntKind.i64.wrap ((n : Int) - 1) = (n : Int) - 1 := IntWalk.i64_in _ (by omega)
  go_wp2_with ((go_at_call 97; ((with_reducible refine (C4.lin HQ.out _).mono ?_); rintro ee w3 ⟨rfl, rfl⟩)))
  refine bodyPost_ret (v := dt 0 0 0 0 0 false) (by first | (simp [results, Try.results45, go_sem, *]; done) | (simp (disch := (first | omega | (simp; done) | (simp; omega))) [results, Try.results45, go_sem, *]; done) | (simp only [results, Try.results45]; go_simp; done)) rfl ⟨rfl, ?_⟩
  (repeat' (first | (with_reducible exact Below.refl _ _) | (with_reducible assumption) | (with_reducible refine Below.alloc ?_ ?_ _) | (with_reducible refine Below.drew ?_) | (with_reducible refine below_drewN ?_ _) | (with_reducible refine Below.setCell ?_ ?_ _) | (with_reducible refine chain ?_ (by assumption) ?_) | omega | (simp; done) | (simp; omega)))

set_option maxRecDepth 100000 in
set_option maxHeartbeats 8000000 in
theorem qw_i_f {a0 s e9 : Int} {A : Option Addr} {m c : Nat} {r t : Int} {k : Nat} {zs : List D5} {w : World} (h1 : ∀ W : World, Below w.heap.size w W → Calls Try.prog 37 #[C4.circuitV a0 A m c, .int .i64 s] W fun ee w' => ∃ (Bo : Option Addr) (cq : Nat), ee = .returned (mt r t Bo k cq false) ∧ Rd w' Bo zs ∧ Below W.heap.size W w') :
    Calls Try.prog 46 #[C4.circuitV a0 A m c, .int .i64 s, .int .i64 e9] w fun ee w' => ee = .returned (dt 0 0 0 0 0 false) ∧ Below w.heap.size w w' := by
  have H1 := hid h1
  clear h1
  go_enter Try.func46, Try.ntmps46
  go_wp2_with (fail)
  refine (H1.out _ (by (repeat' (first | (with_reducible exact Below.refl _ _) | (with_reducible assumption) | (with_reducible refine Below.alloc ?_ ?_ _) | (with_reducible refine Below.drew ?_) | (with_reducible refine below_drewN ?_ _) | (with_reducible refine Below.setCell ?_ ?_ _) | (with_reducible refine chain ?_ (by assumption) ?_) | omega | (simp; done) | (simp; omega))))).mono ?_
  rintro ee w1 ⟨Bo1, cq1, rfl, hR1, hb1⟩
  have Xa1 : Bx w1 (w.heap.size) 45 #[.int .i64 a0, .slice A m c] := by (repeat' (first | (with_reducible assumption) | (refine Bx.new (by first | (with_reducible rfl) | (simp; done))) | (with_reducible refine Bx.alloc ?_ _) | (with_reducible refine Bx.drew ?_) | (with_reducible refine Bx.drewN ?_ _) | (with_reducible refine Bx.mono ?_ (by assumption)) | (with_reducible refine Bx.badly ?_ (by assumption) (by omega)) | (with_reducible refine Bx.far ?_ (by (try simp only [World.size_alloc, World.size_drew]); omega)) | (with_reducible refine Bx.set ?_ rfl) | (with_reducible refine Bx.grown ?_ (by assumption) (by assumption))))
  have Xz1 : Bx w1 (w.heap.size + 1) 59 #[.int .i64 0, .int .i64 0, .int .i64 0, .int .i64 0, .int .i64 0] := by (repeat' (first | (with_reducible assumption) | (refine Bx.new (by first | (with_reducible rfl) | (simp; done))) | (with_reducible refine Bx.alloc ?_ _) | (with_reducible refine Bx.drew ?_) | (with_reducible refine Bx.drewN ?_ _) | (with_reducible refine Bx.mono ?_ (by assumption)) | (with_reducible refine Bx.badly ?_ (by assumption) (by omega)) | (with_reducible refine Bx.far ?_ (by (try simp only [World.size_alloc, World.size_drew]); omega)) | (with_reducible refine Bx.set ?_ rfl) | (with_reducible refine Bx.grown ?_ (by assumption) (by assumption))))
  have hz1 := hb1.size
  (try simp only [World.size_alloc] at hz1)
  have hw1 : Below w.heap.size w w1 := by (repeat' (first | (with_reducible exact Below.refl _ _) | (with_reducible assumption) | (with_reducible refine Below.alloc ?_ ?_ _) | (with_reducible refine Below.drew ?_) | (with_reducible refine below_drewN ?_ _) | (with_reducible refine Below.setCell ?_ ?_ _) | (with_reducible refine chain ?_ (by assumption) ?_) | omega | (simp; done) | (simp; omega)))
  have HR1 := hid hR1
  have a0' := Xa1.c 0 rfl
  have a1' := Xa1.c 1 rfl
  have la := Xa1.lt
  have lz := Xz1.lt
  have fz := Xz1.f
  have z0' := Xz1.c 0 rfl
  have z1' := Xz1.c 1 rfl
  have z2' := Xz1.c 2 rfl
  have z3' := Xz1.c 3 rfl
  have z4' := Xz1.c 4 rfl
  clear hb1 hR1
  go_wp2_with (fail)
  refine bodyPost_ret (v := dt 0 0 0 0 0 false) (by first | (simp [results, Try.results46, go_sem, *]; done) | (simp (disch := (first | omega | (simp; done) | (simp; omega))) [results, Try.results46, go_sem, *]; done) | (simp only [results, Try.results46]; go_simp; done)) rfl ⟨rfl, ?_⟩
  (repeat' (first | (with_reducible exact Below.refl _ _) | (with_reducible assumption) | (with_reducible refine Below.alloc ?_ ?_ _) | (with_reducible refine Below.drew ?_) | (with_reducible refine below_drewN ?_ _) | (with_reducible refine Below.setCell ?_ ?_ _) | (with_reducible refine chain ?_ (by assumption) ?_) | omega | (simp; done) | (simp; omega)))

set_option maxRecDepth 100000 in
set_option maxHeartbeats 8000000 in
theorem qw_i_r {n : Nat} {s e9 : Int} {A : Option Addr} {m c : Nat} {r t : Int} {k : Nat} {zs : List D5} {w : World} (h1 : ∀ W : World, Below w.heap.size w W → Calls Try.prog 37 #[C4.circuitV (n : Int) A m c, .int .i64 s] W fun ee w' => ∃ (Bo : Option Addr) (cq : Nat), ee = .returned (mt r t Bo k cq true) ∧ Rd w' Bo zs ∧ Below W.heap.size W w') (q1 : 1 ≤ n) (q5 : n ≤ 5) (hr : C4.inB e9 0 ((n : Int) - 1) = false) :
    Calls Try.prog 46 #[C4.circuitV (n : Int) A m c, .int .i64 s, .int .i64 e9] w fun ee w' => ee = .returned (dt 0 0 0 0 0 false) ∧ Below w.heap.size w w' := by
  have HQ := hid hr
  clear hr
  have H1 := hid h1
  clear h1
  go_enter Try.func46, Try.ntmps46
  go_wp2_with (fail)
  refine (H1.out _ (by (repeat' (first | (with_reducible exact Below.refl _ _) | (with_reducible assumption) | (with_reducible refine Below.alloc ?_ ?_ _) | (with_reducible refine Below.drew ?_) | (with_reducible refine below_drewN ?_ _) | (with_reducible refine Below.setCell ?_ ?_ _) | (with_reducible refine chain ?_ (by assumption) ?_) | omega | (simp; done) | (simp; omega))))).mono ?_
  rintro ee w1 ⟨Bo1, cq1, rfl, hR1, hb1⟩
  have Xa1 : Bx w1 (w.heap.size) 45 #[.int .i64 (n : Int), .slice A m c] := by (repeat' (first | (with_reducible assumption) | (refine Bx.new (by first | (with_reducible rfl) | (simp; done))) | (with_reducible refine Bx.alloc ?_ _) | (with_reducible refine Bx.drew ?_) | (with_reducible refine Bx.drewN ?_ _) | (with_reducible refine Bx.mono ?_ (by assumption)) | (with_reducible refine Bx.badly ?_ (by assumption) (by omega)) | (with_reducible refine Bx.far ?_ (by (try simp only [World.size_alloc, World.size_drew]); omega)) | (with_reducible refine Bx.set ?_ rfl) | (with_reducible refine Bx.grown ?_ (by assumption) (by assumption))))
  have Xz1 : Bx w1 (w.heap.size + 1) 59 #[.int .i64 0, .int .i64 0, .int .i64 0, .int .i64 0, .int .i64 0] := by (repeat' (first | (with_reducible assumption) | (refine Bx.new (by first | (with_reducible rfl) | (simp; done))) | (with_reducible refine Bx.alloc ?_ _) | (with_reducible refine Bx.drew ?_) | (with_reducible refine Bx.drewN ?_ _) | (with_reducible refine Bx.mono ?_ (by assumption)) | (with_reducible refine Bx.badly ?_ (by assumption) (by omega)) | (with_reducible refine Bx.far ?_ (by (try simp only [World.size_alloc, World.size_drew]); omega)) | (with_reducible refine Bx.set ?_ rfl) | (with_reducible refine Bx.grown ?_ (by assumption) (by assumption))))
  have hz1 := hb1.size
  (try simp only [World.size_alloc] at hz1)
  have hw1 : Below w.heap.size w w1 := by (repeat' (first | (with_reducible exact Below.refl _ _) | (with_reducible assumption) | (with_reducible refine Below.alloc ?_ ?_ _) | (with_reducible refine Below.drew ?_) | (with_reducible refine below_drewN ?_ _) | (with_reducible refine Below.setCell ?_ ?_ _) | (with_reducible refine chain ?_ (by assumption) ?_) | omega | (simp; done) | (simp; omega)))
  have HR1 := hid hR1
  have a0' := Xa1.c 0 rfl
  have a1' := Xa1.c 1 rfl
  have la := Xa1.lt
  have lz := Xz1.lt
  have fz := Xz1.f
  have z0' := Xz1.c 0 rfl
  have z1' := Xz1.c 1 rfl
  have z2' := Xz1.c 2 rfl
  have z3' := Xz1.c 3 rfl
  have z4' := Xz1.c 4 rfl
  clear hb1 hR1
  have e3 : IntKind.i64.wrap ((n : Int) - 1) = (n : Int) - 1 := IntWalk.i64_in _ (by omega)
  go_wp2_with ((go_at_call 112; ((with_reducible refine (C4.iq HQ.out _).mono ?_); rintro ee w3 ⟨rfl, rfl⟩)))
  refine bodyPost_ret (v := dt 0 0 0 0 0 false) (by first | (simp [results, Try.results46, go_sem, *]; done) | (simp (disch := (first | omega | (simp; done) | (simp; omega))) [results, Try.results46, go_sem, *]; done) | (simp only [results, Try.results46]; go_simp; done)) rfl ⟨rfl, ?_⟩
  (repeat' (first | (with_reducible exact Below.refl _ _) | (with_reducible assumption) | (with_reducible refine Below.alloc ?_ ?_ _) | (with_reducible refine Below.drew ?_) | (with_reducible refine below_drewN ?_ _) | (with_reducible refine Below.setCell ?_ ?_ _) | (with_reducible refine chain ?_ (by assumption) ?_) | omega | (simp; done) | (simp; omega)))

end Go.Proofs.Ytnjckeadcbfogaa
