/- Soa -/
import Derived.Test.YtofclfgaekjonaaZp34
import Derived.Test.YtofclfgaekjonaaZp18
namespace Go.Proofs.Ytofclfgaekjonaa
open Go.RowKit RM
set_option linter.unusedVariables false
set_option linter.unusedSimpArgs false
attribute [local irreducible] World.setCell

open GM
set_option maxRecDepth 100000 in
set_option maxHeartbeats 8000000 in
theorem so_s_f1 {a0 b0 : Int} {A B : Option Addr} {m c1 p d1 : Nat} {r1 s1 r2 s2 : Int} {k1 k2 : Nat} {zs ys : List D5} {w : World} {ok2 : Bool} (h1 : ∀ W : World, Below w.heap.size w W → Calls Try.prog 64 #[C4.circuitV a0 A m c1] W fun ee w' => ∃ (Bo : Option Addr) (cq : Nat), ee = .returned (mt r1 s1 Bo k1 cq false) ∧ Rd w' Bo zs ∧ Below W.heap.size W w') (h2 : ∀ W : World, Below w.heap.size w W → Calls Try.prog 64 #[C4.circuitV b0 B p d1] W fun ee w' => ∃ (Bo : Option Addr) (cq : Nat), ee = .returned (mt r2 s2 Bo k2 cq ok2) ∧ Rd w' Bo ys ∧ Below W.heap.size W w') :
    Calls Try.prog 21 #[C4.circuitV a0 A m c1, C4.circuitV b0 B p d1] w fun ee w' => ee = .returned (.tuple #[.bool false, .bool false]) ∧ Below w.heap.size w w' := by
  have H1 := hid h1
  have H2 := hid h2
  clear h1 h2
  go_enter Try.func21, Try.ntmps21
  go_wp2_with (fail)
  refine (H1.out _ (by (repeat' (first | (with_reducible exact Below.refl _ _) | (with_reducible assumption) | (with_reducible refine Below.alloc ?_ ?_ _) | (with_reducible refine Below.drew ?_) | (with_reducible refine below_drewN ?_ _) | (with_reducible refine Below.setCell ?_ ?_ _) | (with_reducible refine chain ?_ (by assumption) ?_) | omega | (simp; done) | (simp; omega))))).mono ?_
  rintro ee w1 ⟨Bo1, cq1, rfl, hR1, hb1⟩
  have Xa1 : Bx w1 (w.heap.size) 42 #[.int .i64 a0, .slice A m c1] := by (repeat' (first | (with_reducible assumption) | (refine Bx.new (by first | (with_reducible rfl) | (simp; done))) | (with_reducible refine Bx.alloc ?_ _) | (with_reducible refine Bx.drew ?_) | (with_reducible refine Bx.drewN ?_ _) | (with_reducible refine Bx.mono ?_ (by assumption)) | (with_reducible refine Bx.badly ?_ (by assumption) (by omega)) | (with_reducible refine Bx.far ?_ (by (try simp only [World.size_alloc, World.size_drew]); omega)) | (with_reducible refine Bx.set ?_ rfl) | (with_reducible refine Bx.grown ?_ (by assumption) (by assumption))))
  have Xb1 : Bx w1 (w.heap.size + 1) 42 #[.int .i64 b0, .slice B p d1] := by (repeat' (first | (with_reducible assumption) | (refine Bx.new (by first | (with_reducible rfl) | (simp; done))) | (with_reducible refine Bx.alloc ?_ _) | (with_reducible refine Bx.drew ?_) | (with_reducible refine Bx.drewN ?_ _) | (with_reducible refine Bx.mono ?_ (by assumption)) | (with_reducible refine Bx.badly ?_ (by assumption) (by omega)) | (with_reducible refine Bx.far ?_ (by (try simp only [World.size_alloc, World.size_drew]); omega)) | (with_reducible refine Bx.set ?_ rfl) | (with_reducible refine Bx.grown ?_ (by assumption) (by assumption))))
  have hz1 := hb1.size
  (try simp only [World.size_alloc] at hz1)
  have hw1 : Below w.heap.size w w1 := by (repeat' (first | (with_reducible exact Below.refl _ _) | (with_reducible assumption) | (with_reducible refine Below.alloc ?_ ?_ _) | (with_reducible refine Below.drew ?_) | (with_reducible refine below_drewN ?_ _) | (with_reducible refine Below.setCell ?_ ?_ _) | (with_reducible refine chain ?_ (by assumption) ?_) | omega | (simp; done) | (simp; omega)))
  have HR1 := hid hR1
  have a0' := Xa1.c 0 rfl
  have a1' := Xa1.c 1 rfl
  have y0' := Xb1.c 0 rfl
  have y1' := Xb1.c 1 rfl
  have la := Xa1.lt
  have lb := Xb1.lt
  clear hb1 hR1
  go_wp2_with (fail)
  refine (H2.out _ (by (repeat' (first | (with_reducible exact Below.refl _ _) | (with_reducible assumption) | (with_reducible refine Below.alloc ?_ ?_ _) | (with_reducible refine Below.drew ?_) | (with_reducible refine below_drewN ?_ _) | (with_reducible refine Below.setCell ?_ ?_ _) | (with_reducible refine chain ?_ (by assumption) ?_) | omega | (simp; done) | (simp; omega))))).mono ?_
  rintro ee w2 ⟨Bo2, cq2, rfl, hR2, hb2⟩
  have hz2 := hb2.size
  (try simp only [World.size_alloc] at hz2)
  have Xm2 := Bx.mono (Bx.new (W := w1) (t := 30) rfl) hb2
  have hb12 : Below w1.heap.size w1 w2 := chain ((Below.refl _ _).alloc (Nat.le_refl _) _) hb2 (by simp)
  have Xa2 := Xa1.mono hb12
  have Xb2 := Xb1.mono hb12
  have hw2 : Below w.heap.size w w2 := chain hw1 hb12 hw1.size
  have HR1' := hid (HR1.out.mono hb12)
  have HR2 := hid hR2
  clear hb2 hR2 a0' a1' y0' y1' HR1 Xa1 Xb1
  have a0' := Xa2.c 0 rfl
  have a1' := Xa2.c 1 rfl
  have y0' := Xb2.c 0 rfl
  have y1' := Xb2.c 1 rfl
  have m0 := Xm2.c 0 rfl
  have m1 := Xm2.c 1 rfl
  have m2 := Xm2.c 2 rfl
  have la2 := Xa2.lt
  have lb2 := Xb2.lt
  have lm2 := Xm2.lt
  go_wp2_with (fail)
  refine bodyPost_ret (v := .tuple #[.bool false, .bool false]) (by first | (simp [results, Try.results21, go_sem, *]; done) | (simp (disch := (first | omega | (simp; done) | (simp; omega))) [results, Try.results21, go_sem, *]; done) | (simp only [results, Try.results21]; go_simp; done)) rfl ⟨rfl, ?_⟩
  (repeat' (first | (with_reducible exact Below.refl _ _) | (with_reducible assumption) | (with_reducible refine Below.alloc ?_ ?_ _) | (with_reducible refine Below.drew ?_) | (with_reducible refine below_drewN ?_ _) | (with_reducible refine Below.setCell ?_ ?_ _) | (with_reducible refine chain ?_ (by assumption) ?_) | omega | (simp; done) | (simp; omega)))

set_option maxRecDepth 100000 in
set_option maxHeartbeats 8000000 in
theorem so_s_f2 {a0 b0 : Int} {A B : Option Addr} {m c1 p d1 : Nat} {r1 s1 r2 s2 : Int} {k1 k2 : Nat} {zs ys : List D5} {w : World} (h1 : ∀ W : World, Below w.heap.size w W → Calls Try.prog 64 #[C4.circuitV a0 A m c1] W fun ee w' => ∃ (Bo : Option Addr) (cq : Nat), ee = .returned (mt r1 s1 Bo k1 cq true) ∧ Rd w' Bo zs ∧ Below W.heap.size W w') (h2 : ∀ W : World, Below w.heap.size w W → Calls Try.prog 64 #[C4.circuitV b0 B p d1] W fun ee w' => ∃ (Bo : Option Addr) (cq : Nat), ee = .returned (mt r2 s2 Bo k2 cq false) ∧ Rd w' Bo ys ∧ Below W.heap.size W w') :
    Calls Try.prog 21 #[C4.circuitV a0 A m c1, C4.circuitV b0 B p d1] w fun ee w' => ee = .returned (.tuple #[.bool false, .bool false]) ∧ Below w.heap.size w w' := by
  have H1 := hid h1
  have H2 := hid h2
  clear h1 h2
  go_enter Try.func21, Try.ntmps21
  go_wp2_with (fail)
  refine (H1.out _ (by (repeat' (first | (with_reducible exact Below.refl _ _) | (with_reducible assumption) | (with_reducible refine Below.alloc ?_ ?_ _) | (with_reducible refine Below.drew ?_) | (with_reducible refine below_drewN ?_ _) | (with_reducible refine Below.setCell ?_ ?_ _) | (with_reducible refine chain ?_ (by assumption) ?_) | omega | (simp; done) | (simp; omega))))).mono ?_
  rintro ee w1 ⟨Bo1, cq1, rfl, hR1, hb1⟩
  have Xa1 : Bx w1 (w.heap.size) 42 #[.int .i64 a0, .slice A m c1] := by (repeat' (first | (with_reducible assumption) | (refine Bx.new (by first | (with_reducible rfl) | (simp; done))) | (with_reducible refine Bx.alloc ?_ _) | (with_reducible refine Bx.drew ?_) | (with_reducible refine Bx.drewN ?_ _) | (with_reducible refine Bx.mono ?_ (by assumption)) | (with_reducible refine Bx.badly ?_ (by assumption) (by omega)) | (with_reducible refine Bx.far ?_ (by (try simp only [World.size_alloc, World.size_drew]); omega)) | (with_reducible refine Bx.set ?_ rfl) | (with_reducible refine Bx.grown ?_ (by assumption) (by assumption))))
  have Xb1 : Bx w1 (w.heap.size + 1) 42 #[.int .i64 b0, .slice B p d1] := by (repeat' (first | (with_reducible assumption) | (refine Bx.new (by first | (with_reducible rfl) | (simp; done))) | (with_reducible refine Bx.alloc ?_ _) | (with_reducible refine Bx.drew ?_) | (with_reducible refine Bx.drewN ?_ _) | (with_reducible refine Bx.mono ?_ (by assumption)) | (with_reducible refine Bx.badly ?_ (by assumption) (by omega)) | (with_reducible refine Bx.far ?_ (by (try simp only [World.size_alloc, World.size_drew]); omega)) | (with_reducible refine Bx.set ?_ rfl) | (with_reducible refine Bx.grown ?_ (by assumption) (by assumption))))
  have hz1 := hb1.size
  (try simp only [World.size_alloc] at hz1)
  have hw1 : Below w.heap.size w w1 := by (repeat' (first | (with_reducible exact Below.refl _ _) | (with_reducible assumption) | (with_reducible refine Below.alloc ?_ ?_ _) | (with_reducible refine Below.drew ?_) | (with_reducible refine below_drewN ?_ _) | (with_reducible refine Below.setCell ?_ ?_ _) | (with_reducible refine chain ?_ (by assumption) ?_) | omega | (simp; done) | (simp; omega)))
  have HR1 := hid hR1
  have a0' := Xa1.c 0 rfl
  have a1' := Xa1.c 1 rfl
  have y0' := Xb1.c 0 rfl
  have y1' := Xb1.c 1 rfl
  have la := Xa1.lt
  have lb := Xb1.lt
  clear hb1 hR1
  go_wp2_with (fail)
  refine (H2.out _ (by (repeat' (first | (with_reducible exact Below.refl _ _) | (with_reducible assumption) | (with_reducible refine Below.alloc ?_ ?_ _) | (with_reducible refine Below.drew ?_) | (with_reducible refine below_drewN ?_ _) | (with_reducible refine Below.setCell ?_ ?_ _) | (with_reducible refine chain ?_ (by assumption) ?_) | omega | (simp; done) | (simp; omega))))).mono ?_
  rintro ee w2 ⟨Bo2, cq2, rfl, hR2, hb2⟩
  have hz2 := hb2.size
  (try simp only [World.size_alloc] at hz2)
  have Xm2 := Bx.mono (Bx.new (W := w1) (t := 30) rfl) hb2
  have hb12 : Below w1.heap.size w1 w2 := chain ((Below.refl _ _).alloc (Nat.le_refl _) _) hb2 (by simp)
  have Xa2 := Xa1.mono hb12
  have Xb2 := Xb1.mono hb12
  have hw2 : Below w.heap.size w w2 := chain hw1 hb12 hw1.size
  have HR1' := hid (HR1.out.mono hb12)
  have HR2 := hid hR2
  clear hb2 hR2 a0' a1' y0' y1' HR1 Xa1 Xb1
  have a0' := Xa2.c 0 rfl
  have a1' := Xa2.c 1 rfl
  have y0' := Xb2.c 0 rfl
  have y1' := Xb2.c 1 rfl
  have m0 := Xm2.c 0 rfl
  have m1 := Xm2.c 1 rfl
  have m2 := Xm2.c 2 rfl
  have la2 := Xa2.lt
  have lb2 := Xb2.lt
  have lm2 := Xm2.lt
  go_wp2_with (fail)
  refine bodyPost_ret (v := .tuple #[.bool false, .bool false]) (by first | (simp [results, Try.results21, go_sem, *]; done) | (simp (disch := (first | omega | (simp; done) | (simp; omega))) [results, Try.results21, go_sem, *]; done) | (simp only [results, Try.results21]; go_simp; done)) rfl ⟨rfl, ?_⟩
  (repeat' (first | (with_reducible exact Below.refl _ _) | (with_reducible assumption) | (with_reducible refine Below.alloc ?_ ?_ _) | (with_reducible refine Below.drew ?_) | (with_reducible refine below_drewN ?_ _) | (with_reducible refine Below.setCell ?_ ?_ _) | (with_reducible refine chain ?_ (by assumption) ?_) | omega | (simp; done) | (simp; omega)))

set_option maxRecDepth 100000 in
set_option maxHeartbeats 8000000 in
theorem so_s_f3 {a0 b0 : Int} {A B : Option Addr} {m c1 p d1 : Nat} {r1 s1 r2 s2 : Int} {k1 k2 : Nat} {zs ys : List D5} {w : World} (h1 : ∀ W : World, Below w.heap.size w W → Calls Try.prog 64 #[C4.circuitV a0 A m c1] W fun ee w' => ∃ (Bo : Option Addr) (cq : Nat), ee = .returned (mt r1 s1 Bo k1 cq true) ∧ Rd w' Bo zs ∧ Below W.heap.size W w') (h2 : ∀ W : World, Below w.heap.size w W → Calls Try.prog 64 #[C4.circuitV b0 B p d1] W fun ee w' => ∃ (Bo : Option Addr) (cq : Nat), ee = .returned (mt r2 s2 Bo k2 cq true) ∧ Rd w' Bo ys ∧ Below W.heap.size W w') (hne : a0 ≠ b0) :
    Calls Try.prog 21 #[C4.circuitV a0 A m c1, C4.circuitV b0 B p d1] w fun ee w' => ee = .returned (.tuple #[.bool false, .bool false]) ∧ Below w.heap.size w w' := by
  have e1 : (a0 == b0) = false := by simpa using hne
  have e2 : (a0 != b0) = true := by simpa using hne
  have H1 := hid h1
  have H2 := hid h2
  clear h1 h2
  go_enter Try.func21, Try.ntmps21
  go_wp2_with (fail)
  refine (H1.out _ (by (repeat' (first | (with_reducible exact Below.refl _ _) | (with_reducible assumption) | (with_reducible refine Below.alloc ?_ ?_ _) | (with_reducible refine Below.drew ?_) | (with_reducible refine below_drewN ?_ _) | (with_reducible refine Below.setCell ?_ ?_ _) | (with_reducible refine chain ?_ (by assumption) ?_) | omega | (simp; done) | (simp; omega))))).mono ?_
  rintro ee w1 ⟨Bo1, cq1, rfl, hR1, hb1⟩
  have Xa1 : Bx w1 (w.heap.size) 42 #[.int .i64 a0, .slice A m c1] := by (repeat' (first | (with_reducible assumption) | (refine Bx.new (by first | (with_reducible rfl) | (simp; done))) | (with_reducible refine Bx.alloc ?_ _) | (with_reducible refine Bx.drew ?_) | (with_reducible refine Bx.drewN ?_ _) | (with_reducible refine Bx.mono ?_ (by assumption)) | (with_reducible refine Bx.badly ?_ (by assumption) (by omega)) | (with_reducible refine Bx.far ?_ (by (try simp only [World.size_alloc, World.size_drew]); omega)) | (with_reducible refine Bx.set ?_ rfl) | (with_reducible refine Bx.grown ?_ (by assumption) (by assumption))))
  have Xb1 : Bx w1 (w.heap.size + 1) 42 #[.int .i64 b0, .slice B p d1] := by (repeat' (first | (with_reducible assumption) | (refine Bx.new (by first | (with_reducible rfl) | (simp; done))) | (with_reducible refine Bx.alloc ?_ _) | (with_reducible refine Bx.drew ?_) | (with_reducible refine Bx.drewN ?_ _) | (with_reducible refine Bx.mono ?_ (by assumption)) | (with_reducible refine Bx.badly ?_ (by assumption) (by omega)) | (with_reducible refine Bx.far ?_ (by (try simp only [World.size_alloc, World.size_drew]); omega)) | (with_reducible refine Bx.set ?_ rfl) | (with_reducible refine Bx.grown ?_ (by assumption) (by assumption))))
  have hz1 := hb1.size
  (try simp only [World.size_alloc] at hz1)
  have hw1 : Below w.heap.size w w1 := by (repeat' (first | (with_reducible exact Below.refl _ _) | (with_reducible assumption) | (with_reducible refine Below.alloc ?_ ?_ _) | (with_reducible refine Below.drew ?_) | (with_reducible refine below_drewN ?_ _) | (with_reducible refine Below.setCell ?_ ?_ _) | (with_reducible refine chain ?_ (by assumption) ?_) | omega | (simp; done) | (simp; omega)))
  have HR1 := hid hR1
  have a0' := Xa1.c 0 rfl
  have a1' := Xa1.c 1 rfl
  have y0' := Xb1.c 0 rfl
  have y1' := Xb1.c 1 rfl
  have la := Xa1.lt
  have lb := Xb1.lt
  clear hb1 hR1
  go_wp2_with (fail)
  refine (H2.out _ (by (repeat' (first | (with_reducible exact Below.refl _ _) | (with_reducible assumption) | (with_reducible refine Below.alloc ?_ ?_ _) | (with_reducible refine Below.drew ?_) | (with_reducible refine below_drewN ?_ _) | (with_reducible refine Below.setCell ?_ ?_ _) | (with_reducible refine chain ?_ (by assumption) ?_) | omega | (simp; done) | (simp; omega))))).mono ?_
  rintro ee w2 ⟨Bo2, cq2, rfl, hR2, hb2⟩
  have hz2 := hb2.size
  (try simp only [World.size_alloc] at hz2)
  have Xm2 := Bx.mono (Bx.new (W := w1) (t := 30) rfl) hb2
  have hb12 : Below w1.heap.size w1 w2 := chain ((Below.refl _ _).alloc (Nat.le_refl _) _) hb2 (by simp)
  have Xa2 := Xa1.mono hb12
  have Xb2 := Xb1.mono hb12
  have hw2 : Below w.heap.size w w2 := chain hw1 hb12 hw1.size
  have HR1' := hid (HR1.out.mono hb12)
  have HR2 := hid hR2
  clear hb2 hR2 a0' a1' y0' y1' HR1 Xa1 Xb1
  have a0' := Xa2.c 0 rfl
  have a1' := Xa2.c 1 rfl
  have y0' := Xb2.c 0 rfl
  have y1' := Xb2.c 1 rfl
  have m0 := Xm2.c 0 rfl
  have m1 := Xm2.c 1 rfl
  have m2 := Xm2.c 2 rfl
  have la2 := Xa2.lt
  have lb2 := Xb2.lt
  have lm2 := Xm2.lt
  go_wp2_with (fail)
  refine bodyPost_ret (v := .tuple #[.bool false, .bool false]) (by first | (simp [results, Try.results21, go_sem, *]; done) | (simp (disch := (first | omega | (simp; done) | (simp; omega))) [results, Try.results21, go_sem, *]; done) | (simp only [results, Try.results21]; go_simp; done)) rfl ⟨rfl, ?_⟩
  (repeat' (first | (with_reducible exact Below.refl _ _) | (with_reducible assumption) | (with_reducible refine Below.alloc ?_ ?_ _) | (with_reducible refine Below.drew ?_) | (with_reducible refine below_drewN ?_ _) | (with_reducible refine Below.setCell ?_ ?_ _) | (with_reducible refine chain ?_ (by assumption) ?_) | omega | (simp; done) | (simp; omega)))

set_option maxRecDepth 100000 in
set_option maxHeartbeats 8000000 in
theorem so_s_t {a0 b0 : Int} {A B : Option Addr} {m c1 p d1 : Nat} {r1 s1 r2 s2 : Int} {k1 k2 : Nat} {zs ys : List D5} {w : World} (h1 : ∀ W : World, Below w.heap.size w W → Calls Try.prog 64 #[C4.circuitV a0 A m c1] W fun ee w' => ∃ (Bo : Option Addr) (cq : Nat), ee = .returned (mt r1 s1 Bo k1 cq true) ∧ Rd w' Bo zs ∧ Below W.heap.size W w') (h2 : ∀ W : World, Below w.heap.size w W → Calls Try.prog 64 #[C4.circuitV b0 B p d1] W fun ee w' => ∃ (Bo : Option Addr) (cq : Nat), ee = .returned (mt r2 s2 Bo k2 cq true) ∧ Rd w' Bo ys ∧ Below W.heap.size W w') (he : a0 = b0) (hl : zs.length = k1) (hl2 : ys.length = k2) (ho1 : okM r1 s1 k1 zs = true) (ho2 : okM r2 s2 k2 ys = true) :
    Calls Try.prog 21 #[C4.circuitV a0 A m c1, C4.circuitV b0 B p d1] w fun ee w' => PH (fun (_ : Int) (z : Bool) => Value.tuple #[.bool z, .bool true]) (badK r1 s1 r2 s2 k1 zs ys) w w' ee := by
  have e1 : (a0 == b0) = true := by simpa using he
  have e2 : (a0 != b0) = false := by simpa using he
  clear he
  have hn5 : k1 ≤ 1048576 := by obtain ⟨R, C, -, -, -, -, -, -, -, h⟩ := okM_nat ho1; omega
  have hd0 : r1 = r2 → s1 = s2 → k1 = k2 := by
    intro e1 e2
    subst e1 e2
    have := (okM_iff.1 ho1).2.2.1
    have := (okM_iff.1 ho2).2.2.1
    omega
  have HO1 := hid ho1
  have HO2 := hid ho2
  have HL := hid hl
  have HL2 := hid hl2
  have HD0 := hid hd0
  clear ho1 ho2 hl hl2 hd0
  have H1 := hid h1
  have H2 := hid h2
  clear h1 h2
  go_enter Try.func21, Try.ntmps21
  go_wp2_with (fail)
  refine (H1.out _ (by (repeat' (first | (with_reducible exact Below.refl _ _) | (with_reducible assumption) | (with_reducible refine Below.alloc ?_ ?_ _) | (with_reducible refine Below.drew ?_) | (with_reducible refine below_drewN ?_ _) | (with_reducible refine Below.setCell ?_ ?_ _) | (with_reducible refine chain ?_ (by assumption) ?_) | omega | (simp; done) | (simp; omega))))).mono ?_
  rintro ee w1 ⟨Bo1, cq1, rfl, hR1, hb1⟩
  have Xa1 : Bx w1 (w.heap.size) 42 #[.int .i64 a0, .slice A m c1] := by (repeat' (first | (with_reducible assumption) | (refine Bx.new (by first | (with_reducible rfl) | (simp; done))) | (with_reducible refine Bx.alloc ?_ _) | (with_reducible refine Bx.drew ?_) | (with_reducible refine Bx.drewN ?_ _) | (with_reducible refine Bx.mono ?_ (by assumption)) | (with_reducible refine Bx.badly ?_ (by assumption) (by omega)) | (with_reducible refine Bx.far ?_ (by (try simp only [World.size_alloc, World.size_drew]); omega)) | (with_reducible refine Bx.set ?_ rfl) | (with_reducible refine Bx.grown ?_ (by assumption) (by assumption))))
  have Xb1 : Bx w1 (w.heap.size + 1) 42 #[.int .i64 b0, .slice B p d1] := by (repeat' (first | (with_reducible assumption) | (refine Bx.new (by first | (with_reducible rfl) | (simp; done))) | (with_reducible refine Bx.alloc ?_ _) | (with_reducible refine Bx.drew ?_) | (with_reducible refine Bx.drewN ?_ _) | (with_reducible refine Bx.mono ?_ (by assumption)) | (with_reducible refine Bx.badly ?_ (by assumption) (by omega)) | (with_reducible refine Bx.far ?_ (by (try simp only [World.size_alloc, World.size_drew]); omega)) | (with_reducible refine Bx.set ?_ rfl) | (with_reducible refine Bx.grown ?_ (by assumption) (by assumption))))
  have hz1 := hb1.size
  (try simp only [World.size_alloc] at hz1)
  have hw1 : Below w.heap.size w w1 := by (repeat' (first | (with_reducible exact Below.refl _ _) | (with_reducible assumption) | (with_reducible refine Below.alloc ?_ ?_ _) | (with_reducible refine Below.drew ?_) | (with_reducible refine below_drewN ?_ _) | (with_reducible refine Below.setCell ?_ ?_ _) | (with_reducible refine chain ?_ (by assumption) ?_) | omega | (simp; done) | (simp; omega)))
  have HR1 := hid hR1
  have a0' := Xa1.c 0 rfl
  have a1' := Xa1.c 1 rfl
  have y0' := Xb1.c 0 rfl
  have y1' := Xb1.c 1 rfl
  have la := Xa1.lt
  have lb := Xb1.lt
  clear hb1 hR1
  go_wp2_with (fail)
  refine (H2.out _ (by (repeat' (first | (with_reducible exact Below.refl _ _) | (with_reducible assumption) | (with_reducible refine Below.alloc ?_ ?_ _) | (with_reducible refine Below.drew ?_) | (with_reducible refine below_drewN ?_ _) | (with_reducible refine Below.setCell ?_ ?_ _) | (with_reducible refine chain ?_ (by assumption) ?_) | omega | (simp; done) | (simp; omega))))).mono ?_
  rintro ee w2 ⟨Bo2, cq2, rfl, hR2, hb2⟩
  have hz2 := hb2.size
  (try simp only [World.size_alloc] at hz2)
  have Xm2 := Bx.mono (Bx.new (W := w1) (t := 30) rfl) hb2
  have hb12 : Below w1.heap.size w1 w2 := chain ((Below.refl _ _).alloc (Nat.le_refl _) _) hb2 (by simp)
  have Xa2 := Xa1.mono hb12
  have Xb2 := Xb1.mono hb12
  have hw2 : Below w.heap.size w w2 := chain hw1 hb12 hw1.size
  have HR1' := hid (HR1.out.mono hb12)
  have HR2 := hid hR2
  clear hb2 hR2 a0' a1' y0' y1' HR1 Xa1 Xb1
  have a0' := Xa2.c 0 rfl
  have a1' := Xa2.c 1 rfl
  have y0' := Xb2.c 0 rfl
  have y1' := Xb2.c 1 rfl
  have m0 := Xm2.c 0 rfl
  have m1 := Xm2.c 1 rfl
  have m2 := Xm2.c 2 rfl
  have la2 := Xa2.lt
  have lb2 := Xb2.lt
  have lm2 := Xm2.lt
  go_wp2_with (fail)
  refine (lp (xs := zs) (ys := ys) ?_ ?_ HL.out HL2.out hn5 HD0.out (okM_iff.1 HO2.out).2.2.2).mono ?_
  · exact HR1'.out.mono (by (repeat' (first | (with_reducible exact Below.refl _ _) | (with_reducible assumption) | (with_reducible refine Below.alloc ?_ ?_ _) | (with_reducible refine Below.drew ?_) | (with_reducible refine below_drewN ?_ _) | (with_reducible refine Below.setCell ?_ ?_ _) | (with_reducible refine chain ?_ (by assumption) ?_) | omega | (simp; done) | (simp; omega))))
  · exact HR2.out.mono (by (repeat' (first | (with_reducible exact Below.refl _ _) | (with_reducible assumption) | (with_reducible refine Below.alloc ?_ ?_ _) | (with_reducible refine Below.drew ?_) | (with_reducible refine below_drewN ?_ _) | (with_reducible refine Below.setCell ?_ ?_ _) | (with_reducible refine chain ?_ (by assumption) ?_) | omega | (simp; done) | (simp; omega))))
  rintro ee w3 ⟨q1, q2, hb3⟩
  have hz3 := hb3.size
  (try simp only [World.size_alloc] at hz3)
  have hb23 : Below w2.heap.size w2 w3 := chain ((Below.refl _ _).alloc (Nat.le_refl _) _) hb3 (by simp)
  have hw3 : Below w.heap.size w w3 := chain hw2 hb23 hw2.size
  rcases ph_any (badK r1 s1 r2 s2 k1 zs ys) with ⟨Kk, n1, n2, n3⟩ | k
  · obtain rfl : ee = .returned (.tuple #[.int .i64 (Kk : Int), .bool true]) := q1 Kk n1 n2 n3
    have K1 := hid n1
    have K2 := hid n2
    have K3 := hid n3
    clear q1 q2 n1 n2 n3
    go_wp2_with (fail)
    refine bodyPost_ret (v := .tuple #[.bool true, .bool true]) (by first | (simp [results, Try.results21, go_sem, *]; done) | (simp (disch := (first | omega | (simp; done) | (simp; omega))) [results, Try.results21, go_sem, *]; done) | (simp only [results, Try.results21]; go_simp; done)) rfl (PH.found K1.out K2.out K3.out rfl hw3)
  · obtain rfl : ee = .returned (.tuple #[.int .i64 0, .bool false]) := q2 k
    have HH := hid k
    clear q1 q2 k
    go_wp2_with (fail)
    refine bodyPost_ret (v := .tuple #[.bool false, .bool true]) (by first | (simp [results, Try.results21, go_sem, *]; done) | (simp (disch := (first | omega | (simp; done) | (simp; omega))) [results, Try.results21, go_sem, *]; done) | (simp only [results, Try.results21]; go_simp; done)) rfl (PH.none HH.out rfl hw3)

set_option maxRecDepth 100000 in
set_option maxHeartbeats 8000000 in
theorem so_i_f1 {a0 b0 : Int} {A B : Option Addr} {m c1 p d1 : Nat} {r1 s1 r2 s2 : Int} {k1 k2 : Nat} {zs ys : List D5} {w : World} {ok2 : Bool} (h1 : ∀ W : World, Below w.heap.size w W → Calls Try.prog 67 #[C4.circuitV a0 A m c1] W fun ee w' => ∃ (Bo : Option Addr) (cq : Nat), ee = .returned (mt r1 s1 Bo k1 cq false) ∧ Rd w' Bo zs ∧ Below W.heap.size W w') (h2 : ∀ W : World, Below w.heap.size w W → Calls Try.prog 67 #[C4.circuitV b0 B p d1] W fun ee w' => ∃ (Bo : Option Addr) (cq : Nat), ee = .returned (mt r2 s2 Bo k2 cq ok2) ∧ Rd w' Bo ys ∧ Below W.heap.size W w') :
    Calls Try.prog 23 #[C4.circuitV a0 A m c1, C4.circuitV b0 B p d1] w fun ee w' => ee = .returned (.tuple #[.bool false, .bool false]) ∧ Below w.heap.size w w' := by
  have H1 := hid h1
  have H2 := hid h2
  clear h1 h2
  go_enter Try.func23, Try.ntmps23
  go_wp2_with (fail)
  refine (H1.out _ (by (repeat' (first | (with_reducible exact Below.refl _ _) | (with_reducible assumption) | (with_reducible refine Below.alloc ?_ ?_ _) | (with_reducible refine Below.drew ?_) | (with_reducible refine below_drewN ?_ _) | (with_reducible refine Below.setCell ?_ ?_ _) | (with_reducible refine chain ?_ (by assumption) ?_) | omega | (simp; done) | (simp; omega))))).mono ?_
  rintro ee w1 ⟨Bo1, cq1, rfl, hR1, hb1⟩
  have Xa1 : Bx w1 (w.heap.size) 42 #[.int .i64 a0, .slice A m c1] := by (repeat' (first | (with_reducible assumption) | (refine Bx.new (by first | (with_reducible rfl) | (simp; done))) | (with_reducible refine Bx.alloc ?_ _) | (with_reducible refine Bx.drew ?_) | (with_reducible refine Bx.drewN ?_ _) | (with_reducible refine Bx.mono ?_ (by assumption)) | (with_reducible refine Bx.badly ?_ (by assumption) (by omega)) | (with_reducible refine Bx.far ?_ (by (try simp only [World.size_alloc, World.size_drew]); omega)) | (with_reducible refine Bx.set ?_ rfl) | (with_reducible refine Bx.grown ?_ (by assumption) (by assumption))))
  have Xb1 : Bx w1 (w.heap.size + 1) 42 #[.int .i64 b0, .slice B p d1] := by (repeat' (first | (with_reducible assumption) | (refine Bx.new (by first | (with_reducible rfl) | (simp; done))) | (with_reducible refine Bx.alloc ?_ _) | (with_reducible refine Bx.drew ?_) | (with_reducible refine Bx.drewN ?_ _) | (with_reducible refine Bx.mono ?_ (by assumption)) | (with_reducible refine Bx.badly ?_ (by assumption) (by omega)) | (with_reducible refine Bx.far ?_ (by (try simp only [World.size_alloc, World.size_drew]); omega)) | (with_reducible refine Bx.set ?_ rfl) | (with_reducible refine Bx.grown ?_ (by assumption) (by assumption))))
  have hz1 := hb1.size
  (try simp only [World.size_alloc] at hz1)
  have hw1 : Below w.heap.size w w1 := by (repeat' (first | (with_reducible exact Below.refl _ _) | (with_reducible assumption) | (with_reducible refine Below.alloc ?_ ?_ _) | (with_reducible refine Below.drew ?_) | (with_reducible refine below_drewN ?_ _) | (with_reducible refine Below.setCell ?_ ?_ _) | (with_reducible refine chain ?_ (by assumption) ?_) | omega | (simp; done) | (simp; omega)))
  have HR1 := hid hR1
  have a0' := Xa1.c 0 rfl
  have a1' := Xa1.c 1 rfl
  have y0' := Xb1.c 0 rfl
  have y1' := Xb1.c 1 rfl
  have la := Xa1.lt
  have lb := Xb1.lt
  clear hb1 hR1
  go_wp2_with (fail)
  refine (H2.out _ (by (repeat' (first | (with_reducible exact Below.refl _ _) | (with_reducible assumption) | (with_reducible refine Below.alloc ?_ ?_ _) | (with_reducible refine Below.drew ?_) | (with_reducible refine below_drewN ?_ _) | (with_reducible refine Below.setCell ?_ ?_ _) | (with_reducible refine chain ?_ (by assumption) ?_) | omega | (simp; done) | (simp; omega))))).mono ?_
  rintro ee w2 ⟨Bo2, cq2, rfl, hR2, hb2⟩
  have hz2 := hb2.size
  (try simp only [World.size_alloc] at hz2)
  have Xm2 := Bx.mono (Bx.new (W := w1) (t := 30) rfl) hb2
  have hb12 : Below w1.heap.size w1 w2 := chain ((Below.refl _ _).alloc (Nat.le_refl _) _) hb2 (by simp)
  have Xa2 := Xa1.mono hb12
  have Xb2 := Xb1.mono hb12
  have hw2 : Below w.heap.size w w2 := chain hw1 hb12 hw1.size
  have HR1' := hid (HR1.out.mono hb12)
  have HR2 := hid hR2
  clear hb2 hR2 a0' a1' y0' y1' HR1 Xa1 Xb1
  have a0' := Xa2.c 0 rfl
  have a1' := Xa2.c 1 rfl
  have y0' := Xb2.c 0 rfl
  have y1' := Xb2.c 1 rfl
  have m0 := Xm2.c 0 rfl
  have m1 := Xm2.c 1 rfl
  have m2 := Xm2.c 2 rfl
  have la2 := Xa2.lt
  have lb2 := Xb2.lt
  have lm2 := Xm2.lt
  go_wp2_with (fail)
  refine bodyPost_ret (v := .tuple #[.bool false, .bool false]) (by first | (simp [results, Try.results23, go_sem, *]; done) | (simp (disch := (first | omega | (simp; done) | (simp; omega))) [results, Try.results23, go_sem, *]; done) | (simp only [results, Try.results23]; go_simp; done)) rfl ⟨rfl, ?_⟩
  (repeat' (first | (with_reducible exact Below.refl _ _) | (with_reducible assumption) | (with_reducible refine Below.alloc ?_ ?_ _) | (with_reducible refine Below.drew ?_) | (with_reducible refine below_drewN ?_ _) | (with_reducible refine Below.setCell ?_ ?_ _) | (with_reducible refine chain ?_ (by assumption) ?_) | omega | (simp; done) | (simp; omega)))

set_option maxRecDepth 100000 in
set_option maxHeartbeats 8000000 in
theorem so_i_f2 {a0 b0 : Int} {A B : Option Addr} {m c1 p d1 : Nat} {r1 s1 r2 s2 : Int} {k1 k2 : Nat} {zs ys : List D5} {w : World} (h1 : ∀ W : World, Below w.heap.size w W → Calls Try.prog 67 #[C4.circuitV a0 A m c1] W fun ee w' => ∃ (Bo : Option Addr) (cq : Nat), ee = .returned (mt r1 s1 Bo k1 cq true) ∧ Rd w' Bo zs ∧ Below W.heap.size W w') (h2 : ∀ W : World, Below w.heap.size w W → Calls Try.prog 67 #[C4.circuitV b0 B p d1] W fun ee w' => ∃ (Bo : Option Addr) (cq : Nat), ee = .returned (mt r2 s2 Bo k2 cq false) ∧ Rd w' Bo ys ∧ Below W.heap.size W w') :
    Calls Try.prog 23 #[C4.circuitV a0 A m c1, C4.circuitV b0 B p d1] w fun ee w' => ee = .returned (.tuple #[.bool false, .bool false]) ∧ Below w.heap.size w w' := by
  have H1 := hid h1
  have H2 := hid h2
  clear h1 h2
  go_enter Try.func23, Try.ntmps23
  go_wp2_with (fail)
  refine (H1.out _ (by (repeat' (first | (with_reducible exact Below.refl _ _) | (with_reducible assumption) | (with_reducible refine Below.alloc ?_ ?_ _) | (with_reducible refine Below.drew ?_) | (with_reducible refine below_drewN ?_ _) | (with_reducible refine Below.setCell ?_ ?_ _) | (with_reducible refine chain ?_ (by assumption) ?_) | omega | (simp; done) | (simp; omega))))).mono ?_
  rintro ee w1 ⟨Bo1, cq1, rfl, hR1, hb1⟩
  have Xa1 : Bx w1 (w.heap.size) 42 #[.int .i64 a0, .slice A m c1] := by (repeat' (first | (with_reducible assumption) | (refine Bx.new (by first | (with_reducible rfl) | (simp; done))) | (with_reducible refine Bx.alloc ?_ _) | (with_reducible refine Bx.drew ?_) | (with_reducible refine Bx.drewN ?_ _) | (with_reducible refine Bx.mono ?_ (by assumption)) | (with_reducible refine Bx.badly ?_ (by assumption) (by omega)) | (with_reducible refine Bx.far ?_ (by (try simp only [World.size_alloc, World.size_drew]); omega)) | (with_reducible refine Bx.set ?_ rfl) | (with_reducible refine Bx.grown ?_ (by assumption) (by assumption))))
  have Xb1 : Bx w1 (w.heap.size + 1) 42 #[.int .i64 b0, .slice B p d1] := by (repeat' (first | (with_reducible assumption) | (refine Bx.new (by first | (with_reducible rfl) | (simp; done))) | (with_reducible refine Bx.alloc ?_ _) | (with_reducible refine Bx.drew ?_) | (with_reducible refine Bx.drewN ?_ _) | (with_reducible refine Bx.mono ?_ (by assumption)) | (with_reducible refine Bx.badly ?_ (by assumption) (by omega)) | (with_reducible refine Bx.far ?_ (by (try simp only [World.size_alloc, World.size_drew]); omega)) | (with_reducible refine Bx.set ?_ rfl) | (with_reducible refine Bx.grown ?_ (by assumption) (by assumption))))
  have hz1 := hb1.size
  (try simp only [World.size_alloc] at hz1)
  have hw1 : Below w.heap.size w w1 := by (repeat' (first | (with_reducible exact Below.refl _ _) | (with_reducible assumption) | (with_reducible refine Below.alloc ?_ ?_ _) | (with_reducible refine Below.drew ?_) | (with_reducible refine below_drewN ?_ _) | (with_reducible refine Below.setCell ?_ ?_ _) | (with_reducible refine chain ?_ (by assumption) ?_) | omega | (simp; done) | (simp; omega)))
  have HR1 := hid hR1
  have a0' := Xa1.c 0 rfl
  have a1' := Xa1.c 1 rfl
  have y0' := Xb1.c 0 rfl
  have y1' := Xb1.c 1 rfl
  have la := Xa1.lt
  have lb := Xb1.lt
  clear hb1 hR1
  go_wp2_with (fail)
  refine (H2.out _ (by (repeat' (first | (with_reducible exact Below.refl _ _) | (with_reducible assumption) | (with_reducible refine Below.alloc ?_ ?_ _) | (with_reducible refine Below.drew ?_) | (with_reducible refine below_drewN ?_ _) | (with_reducible refine Below.setCell ?_ ?_ _) | (with_reducible refine chain ?_ (by assumption) ?_) | omega | (simp; done) | (simp; omega))))).mono ?_
  rintro ee w2 ⟨Bo2, cq2, rfl, hR2, hb2⟩
  have hz2 := hb2.size
  (try simp only [World.size_alloc] at hz2)
  have Xm2 := Bx.mono (Bx.new (W := w1) (t := 30) rfl) hb2
  have hb12 : Below w1.heap.size w1 w2 := chain ((Below.refl _ _).alloc (Nat.le_refl _) _) hb2 (by simp)
  have Xa2 := Xa1.mono hb12
  have Xb2 := Xb1.mono hb12
  have hw2 : Below w.heap.size w w2 := chain hw1 hb12 hw1.size
  have HR1' := hid (HR1.out.mono hb12)
  have HR2 := hid hR2
  clear hb2 hR2 a0' a1' y0' y1' HR1 Xa1 Xb1
  have a0' := Xa2.c 0 rfl
  have a1' := Xa2.c 1 rfl
  have y0' := Xb2.c 0 rfl
  have y1' := Xb2.c 1 rfl
  have m0 := Xm2.c 0 rfl
  have m1 := Xm2.c 1 rfl
  have m2 := Xm2.c 2 rfl
  have la2 := Xa2.lt
  have lb2 := Xb2.lt
  have lm2 := Xm2.lt
  go_wp2_with (fail)
  refine bodyPost_ret (v := .tuple #[.bool false, .bool false]) (by first | (simp [results, Try.results23, go_sem, *]; done) | (simp (disch := (first | omega | (simp; done) | (simp; omega))) [results, Try.results23, go_sem, *]; done) | (simp only [results, Try.results23]; go_simp; done)) rfl ⟨rfl, ?_⟩
  (repeat' (first | (with_reducible exact Below.refl _ _) | (with_reducible assumption) | (with_reducible refine Below.alloc ?_ ?_ _) | (with_reducible refine Below.drew ?_) | (with_reducible refine below_drewN ?_ _) | (with_reducible refine Below.setCell ?_ ?_ _) | (with_reducible refine chain ?_ (by assumption) ?_) | omega | (simp; done) | (simp; omega)))

set_option maxRecDepth 100000 in
set_option maxHeartbeats 8000000 in
theorem so_i_f3 {a0 b0 : Int} {A B : Option Addr} {m c1 p d1 : Nat} {r1 s1 r2 s2 : Int} {k1 k2 : Nat} {zs ys : List D5} {w : World} (h1 : ∀ W : World, Below w.heap.size w W → Calls Try.prog 67 #[C4.circuitV a0 A m c1] W fun ee w' => ∃ (Bo : Option Addr) (cq : Nat), ee = .returned (mt r1 s1 Bo k1 cq true) ∧ Rd w' Bo zs ∧ Below W.heap.size W w') (h2 : ∀ W : World, Below w.heap.size w W → Calls Try.prog 67 #[C4.circuitV b0 B p d1] W fun ee w' => ∃ (Bo : Option Addr) (cq : Nat), ee = .returned (mt r2 s2 Bo k2 cq true) ∧ Rd w' Bo ys ∧ Below W.heap.size W w') (hne : a0 ≠ b0) :
    Calls Try.prog 23 #[C4.circuitV a0 A m c1, C4.circuitV b0 B p d1] w fun ee w' => ee = .returned (.tuple #[.bool false, .bool false]) ∧ Below w.heap.size w w' := by
  have e1 : (a0 == b0) = false := by simpa using hne
  have e2 : (a0 != b0) = true := by simpa using hne
  have H1 := hid h1
  have H2 := hid h2
  clear h1 h2
  go_enter Try.func23, Try.ntmps23
  go_wp2_with (fail)
  refine (H1.out _ (by (repeat' (first | (with_reducible exact Below.refl _ _) | (with_reducible assumption) | (with_reducible refine Below.alloc ?_ ?_ _) | (with_reducible refine Below.drew ?_) | (with_reducible refine below_drewN ?_ _) | (with_reducible refine Below.setCell ?_ ?_ _) | (with_reducible refine chain ?_ (by assumption) ?_) | omega | (simp; done) | (simp; omega))))).mono ?_
  rintro ee w1 ⟨Bo1, cq1, rfl, hR1, hb1⟩
  have Xa1 : Bx w1 (w.heap.size) 42 #[.int .i64 a0, .slice A m c1] := by (repeat' (first | (with_reducible assumption) | (refine Bx.new (by first | (with_reducible rfl) | (simp; done))) | (with_reducible refine Bx.alloc ?_ _) | (with_reducible refine Bx.drew ?_) | (with_reducible refine Bx.drewN ?_ _) | (with_reducible refine Bx.mono ?_ (by assumption)) | (with_reducible refine Bx.badly ?_ (by assumption) (by omega)) | (with_reducible refine Bx.far ?_ (by (try simp only [World.size_alloc, World.size_drew]); omega)) | (with_reducible refine Bx.set ?_ rfl) | (with_reducible refine Bx.grown ?_ (by assumption) (by assumption))))
  have Xb1 : Bx w1 (w.heap.size + 1) 42 #[.int .i64 b0, .slice B p d1] := by (repeat' (first | (with_reducible assumption) | (refine Bx.new (by first | (with_reducible rfl) | (simp; done))) | (with_reducible refine Bx.alloc ?_ _) | (with_reducible refine Bx.drew ?_) | (with_reducible refine Bx.drewN ?_ _) | (with_reducible refine Bx.mono ?_ (by assumption)) | (with_reducible refine Bx.badly ?_ (by assumption) (by omega)) | (with_reducible refine Bx.far ?_ (by (try simp only [World.size_alloc, World.size_drew]); omega)) | (with_reducible refine Bx.set ?_ rfl) | (with_reducible refine Bx.grown ?_ (by assumption) (by assumption))))
  have hz1 := hb1.size
  (try simp only [World.size_alloc] at hz1)
  have hw1 : Below w.heap.size w w1 := by (repeat' (first | (with_reducible exact Below.refl _ _) | (with_reducible assumption) | (with_reducible refine Below.alloc ?_ ?_ _) | (with_reducible refine Below.drew ?_) | (with_reducible refine below_drewN ?_ _) | (with_reducible refine Below.setCell ?_ ?_ _) | (with_reducible refine chain ?_ (by assumption) ?_) | omega | (simp; done) | (simp; omega)))
  have HR1 := hid hR1
  have a0' := Xa1.c 0 rfl
  have a1' := Xa1.c 1 rfl
  have y0' := Xb1.c 0 rfl
  have y1' := Xb1.c 1 rfl
  have la := Xa1.lt
  have lb := Xb1.lt
  clear hb1 hR1
  go_wp2_with (fail)
  refine (H2.out _ (by (repeat' (first | (with_reducible exact Below.refl _ _) | (with_reducible assumption) | (with_reducible refine Below.alloc ?_ ?_ _) | (with_reducible refine Below.drew ?_) | (with_reducible refine below_drewN ?_ _) | (with_reducible refine Below.setCell ?_ ?_ _) | (with_reducible refine chain ?_ (by assumption) ?_) | omega | (simp; done) | (simp; omega))))).mono ?_
  rintro ee w2 ⟨Bo2, cq2, rfl, hR2, hb2⟩
  have hz2 := hb2.size
  (try simp only [World.size_alloc] at hz2)
  have Xm2 := Bx.mono (Bx.new (W := w1) (t := 30) rfl) hb2
  have hb12 : Below w1.heap.size w1 w2 := chain ((Below.refl _ _).alloc (Nat.le_refl _) _) hb2 (by simp)
  have Xa2 := Xa1.mono hb12
  have Xb2 := Xb1.mono hb12
  have hw2 : Below w.heap.size w w2 := chain hw1 hb12 hw1.size
  have HR1' := hid (HR1.out.mono hb12)
  have HR2 := hid hR2
  clear hb2 hR2 a0' a1' y0' y1' HR1 Xa1 Xb1
  have a0' := Xa2.c 0 rfl
  have a1' := Xa2.c 1 rfl
  have y0' := Xb2.c 0 rfl
  have y1' := Xb2.c 1 rfl
  have m0 := Xm2.c 0 rfl
  have m1 := Xm2.c 1 rfl
  have m2 := Xm2.c 2 rfl
  have la2 := Xa2.lt
  have lb2 := Xb2.lt
  have lm2 := Xm2.lt
  go_wp2_with (fail)
  refine bodyPost_ret (v := .tuple #[.bool false, .bool false]) (by first | (simp [results, Try.results23, go_sem, *]; done) | (simp (disch := (first | omega | (simp; done) | (simp; omega))) [results, Try.results23, go_sem, *]; done) | (simp only [results, Try.results23]; go_simp; done)) rfl ⟨rfl, ?_⟩
  (repeat' (first | (with_reducible exact Below.refl _ _) | (with_reducible assumption) | (with_reducible refine Below.alloc ?_ ?_ _) | (with_reducible refine Below.drew ?_) | (with_reducible refine below_drewN ?_ _) | (with_reducible refine Below.setCell ?_ ?_ _) | (with_reducible refine chain ?_ (by assumption) ?_) | omega | (simp; done) | (simp; omega)))

set_option maxRecDepth 100000 in
set_option maxHeartbeats 8000000 in
theorem so_i_t {a0 b0 : Int} {A B : Option Addr} {m c1 p d1 : Nat} {r1 s1 r2 s2 : Int} {k1 k2 : Nat} {zs ys : List D5} {w : World} (h1 : ∀ W : World, Below w.heap.size w W → Calls Try.prog 67 #[C4.circuitV a0 A m c1] W fun ee w' => ∃ (Bo : Option Addr) (cq : Nat), ee = .returned (mt r1 s1 Bo k1 cq true) ∧ Rd w' Bo zs ∧ Below W.heap.size W w') (h2 : ∀ W : World, Below w.heap.size w W → Calls Try.prog 67 #[C4.circuitV b0 B p d1] W fun ee w' => ∃ (Bo : Option Addr) (cq : Nat), ee = .returned (mt r2 s2 Bo k2 cq true) ∧ Rd w' Bo ys ∧ Below W.heap.size W w') (he : a0 = b0) (hl : zs.length = k1) (hl2 : ys.length = k2) (ho1 : okM r1 s1 k1 zs = true) (ho2 : okM r2 s2 k2 ys = true) :
    Calls Try.prog 23 #[C4.circuitV a0 A m c1, C4.circuitV b0 B p d1] w fun ee w' => PH (fun (_ : Int) (z : Bool) => Value.tuple #[.bool z, .bool true]) (badK r1 s1 r2 s2 k1 zs ys) w w' ee := by
  have e1 : (a0 == b0) = true := by simpa using he
  have e2 : (a0 != b0) = false := by simpa using he
  clear he
  have hn5 : k1 ≤ 1048576 := by obtain ⟨R, C, -, -, -, -, -, -, -, h⟩ := okM_nat ho1; omega
  have hd0 : r1 = r2 → s1 = s2 → k1 = k2 := by
    intro e1 e2
    subst e1 e2
    have := (okM_iff.1 ho1).2.2.1
    have := (okM_iff.1 ho2).2.2.1
    omega
  have HO1 := hid ho1
  have HO2 := hid ho2
  have HL := hid hl
  have HL2 := hid hl2
  have HD0 := hid hd0
  clear ho1 ho2 hl hl2 hd0
  have H1 := hid h1
  have H2 := hid h2
  clear h1 h2
  go_enter Try.func23, Try.ntmps23
  go_wp2_with (fail)
  refine (H1.out _ (by (repeat' (first | (with_reducible exact Below.refl _ _) | (with_reducible assumption) | (with_reducible refine Below.alloc ?_ ?_ _) | (with_reducible refine Below.drew ?_) | (with_reducible refine below_drewN ?_ _) | (with_reducible refine Below.setCell ?_ ?_ _) | (with_reducible refine chain ?_ (by assumption) ?_) | omega | (simp; done) | (simp; omega))))).mono ?_
  rintro ee w1 ⟨Bo1, cq1, rfl, hR1, hb1⟩
  have Xa1 : Bx w1 (w.heap.size) 42 #[.int .i64 a0, .slice A m c1] := by (repeat' (first | (with_reducible assumption) | (refine Bx.new (by first | (with_reducible rfl) | (simp; done))) | (with_reducible refine Bx.alloc ?_ _) | (with_reducible refine Bx.drew ?_) | (with_reducible refine Bx.drewN ?_ _) | (with_reducible refine Bx.mono ?_ (by assumption)) | (with_reducible refine Bx.badly ?_ (by assumption) (by omega)) | (with_reducible refine Bx.far ?_ (by (try simp only [World.size_alloc, World.size_drew]); omega)) | (with_reducible refine Bx.set ?_ rfl) | (with_reducible refine Bx.grown ?_ (by assumption) (by assumption))))
  have Xb1 : Bx w1 (w.heap.size + 1) 42 #[.int .i64 b0, .slice B p d1] := by (repeat' (first | (with_reducible assumption) | (refine Bx.new (by first | (with_reducible rfl) | (simp; done))) | (with_reducible refine Bx.alloc ?_ _) | (with_reducible refine Bx.drew ?_) | (with_reducible refine Bx.drewN ?_ _) | (with_reducible refine Bx.mono ?_ (by assumption)) | (with_reducible refine Bx.badly ?_ (by assumption) (by omega)) | (with_reducible refine Bx.far ?_ (by (try simp only [World.size_alloc, World.size_drew]); omega)) | (with_reducible refine Bx.set ?_ rfl) | (with_reducible refine Bx.grown ?_ (by assumption) (by assumption))))
  have hz1 := hb1.size
  (try simp only [World.size_alloc] at hz1)
  have hw1 : Below w.heap.size w w1 := by (repeat' (first | (with_reducible exact Below.refl _ _) | (with_reducible assumption) | (with_reducible refine Below.alloc ?_ ?_ _) | (with_reducible refine Below.drew ?_) | (with_reducible refine below_drewN ?_ _) | (with_reducible refine Below.setCell ?_ ?_ _) | (with_reducible refine chain ?_ (by assumption) ?_) | omega | (simp; done) | (simp; omega)))
  have HR1 := hid hR1
  have a0' := Xa1.c 0 rfl
  have a1' := Xa1.c 1 rfl
  have y0' := Xb1.c 0 rfl
  have y1' := Xb1.c 1 rfl
  have la := Xa1.lt
  have lb := Xb1.lt
  clear hb1 hR1
  go_wp2_with (fail)
  refine (H2.out _ (by (repeat' (first | (with_reducible exact Below.refl _ _) | (with_reducible assumption) | (with_reducible refine Below.alloc ?_ ?_ _) | (with_reducible refine Below.drew ?_) | (with_reducible refine below_drewN ?_ _) | (with_reducible refine Below.setCell ?_ ?_ _) | (with_reducible refine chain ?_ (by assumption) ?_) | omega | (simp; done) | (simp; omega))))).mono ?_
  rintro ee w2 ⟨Bo2, cq2, rfl, hR2, hb2⟩
  have hz2 := hb2.size
  (try simp only [World.size_alloc] at hz2)
  have Xm2 := Bx.mono (Bx.new (W := w1) (t := 30) rfl) hb2
  have hb12 : Below w1.heap.size w1 w2 := chain ((Below.refl _ _).alloc (Nat.le_refl _) _) hb2 (by simp)
  have Xa2 := Xa1.mono hb12
  have Xb2 := Xb1.mono hb12
  have hw2 : Below w.heap.size w w2 := chain hw1 hb12 hw1.size
  have HR1' := hid (HR1.out.mono hb12)
  have HR2 := hid hR2
  clear hb2 hR2 a0' a1' y0' y1' HR1 Xa1 Xb1
  have a0' := Xa2.c 0 rfl
  have a1' := Xa2.c 1 rfl
  have y0' := Xb2.c 0 rfl
  have y1' := Xb2.c 1 rfl
  have m0 := Xm2.c 0 rfl
  have m1 := Xm2.c 1 rfl
  have m2 := Xm2.c 2 rfl
  have la2 := Xa2.lt
  have lb2 := Xb2.lt
  have lm2 := Xm2.lt
  go_wp2_with (fail)
  refine (up_i_t (xs := zs) (ys := ys) ?_ ?_ HL.out HL2.out HO1.out HO2.out).mono ?_
  · exact HR1'.out.mono (by (repeat' (first | (with_reducible exact Below.refl _ _) | (with_reducible assumption) | (with_reducible refine Below.alloc ?_ ?_ _) | (with_reducible refine Below.drew ?_) | (with_reducible refine below_drewN ?_ _) | (with_reducible refine Below.setCell ?_ ?_ _) | (with_reducible refine chain ?_ (by assumption) ?_) | omega | (simp; done) | (simp; omega))))
  · exact HR2.out.mono (by (repeat' (first | (with_reducible exact Below.refl _ _) | (with_reducible assumption) | (with_reducible refine Below.alloc ?_ ?_ _) | (with_reducible refine Below.drew ?_) | (with_reducible refine below_drewN ?_ _) | (with_reducible refine Below.setCell ?_ ?_ _) | (with_reducible refine chain ?_ (by assumption) ?_) | omega | (simp; done) | (simp; omega))))
  rintro ee w3 ⟨q1, q2, hb3⟩
  have hz3 := hb3.size
  (try simp only [World.size_alloc] at hz3)
  have hb23 : Below w2.heap.size w2 w3 := chain ((Below.refl _ _).alloc (Nat.le_refl _) _) hb3 (by simp)
  have hw3 : Below w.heap.size w w3 := chain hw2 hb23 hw2.size
  rcases ph_any (badK r1 s1 r2 s2 k1 zs ys) with ⟨Kk, n1, n2, n3⟩ | k
  · obtain rfl : ee = .returned (.tuple #[.int .i64 (Kk : Int), .bool true, .bool true]) := q1 Kk n1 n2 n3
    have K1 := hid n1
    have K2 := hid n2
    have K3 := hid n3
    clear q1 q2 n1 n2 n3
    go_wp2_with (fail)
    refine bodyPost_ret (v := .tuple #[.bool true, .bool true]) (by first | (simp [results, Try.results23, go_sem, *]; done) | (simp (disch := (first | omega | (simp; done) | (simp; omega))) [results, Try.results23, go_sem, *]; done) | (simp only [results, Try.results23]; go_simp; done)) rfl (PH.found K1.out K2.out K3.out rfl hw3)
  · obtain rfl : ee = .returned (.tuple #[.int .i64 0, .bool false, .bool true]) := q2 k
    have HH := hid k
    clear q1 q2 k
    go_wp2_with (fail)
    refine bodyPost_ret (v := .tuple #[.bool false, .bool true]) (by first | (simp [results, Try.results23, go_sem, *]; done) | (simp (disch := (first | omega | (simp; done) | (simp; omega))) [results, Try.results23, go_sem, *]; done) | (simp only [results, Try.results23]; go_simp; done)) rfl (PH.none HH.out rfl hw3)

end Go.Proofs.Ytofclfgaekjonaa
