/- IdentityTableau. -/
import Derived.Test.YtgcligmpdlffoaaPis
import Derived.Test.YtgcligmpdlffoaaPid
import Derived.Test.YtgcligmpdlffoaaPt
namespace Go.Proofs.Ytgcligmpdlffoaa.C4
open Go.RowKit
set_option linter.unusedVariables false
set_option linter.unusedSimpArgs false
attribute [local irreducible] World.setCell

theorem Ow2.rd {W : World} {B : Nat} {vx vz : Value} {xs zs : List PauliV} (h : Ow2 W B vx vz xs zs) : ∃ (A1 : Option Addr) (c1 : Nat) (A2 : Option Addr) (c2 : Nat), vx = .slice A1 xs.length c1 ∧ vz = .slice A2 zs.length c2 ∧ (Rd pauliE W A1 xs ∧ ∀ a, A1 = some a → B ≤ a.block ∧ a.block < W.heap.size) ∧ (Rd pauliE W A2 zs ∧ ∀ a, A2 = some a → B ≤ a.block ∧ a.block < W.heap.size) := by
  obtain ⟨A1, c1, e1, r1, l1⟩ := h.1.form
  obtain ⟨A2, c2, e2, r2, l2⟩ := h.2.1.form
  exact ⟨A1, c1, A2, c2, e1, e2, ⟨r1, l1⟩, r2, l2⟩
set_option maxRecDepth 100000 in
set_option maxHeartbeats 4000000 in
theorem it_i_f {n : Int} (h : inB n 1 5 = false) (w : World) :
    Calls Try.prog 45 #[.int .i64 n] w fun ee w' => ee = .returned (.tuple #[tableauV 0 none 0 0 none 0 0, .bool false]) ∧ Below w.heap.size w w' := by
  have HX := lay h
  clear h
  go_enter Try.func45, Try.ntmps45
  go_wp2_with (fail)
  refine (iqc HX.out _).mono ?_
  rintro ee w1 ⟨rfl, rfl⟩
  go_wp2_with (fail)
  refine bodyPost_ret (v := .tuple #[.agg #[.int .i64 0, .slice none 0 0, .slice none 0 0], .bool false]) (by first | (simp [results, Try.results45, go_sem, *]; done) | (simp (disch := (first | omega | (simp; done) | (simp; omega))) [results, Try.results45, go_sem, *]; done) | (simp only [results, Try.results45]; go_simp; done)) rfl ⟨rfl, ?_⟩
  (repeat' (first | (with_reducible exact Below.refl _ _) | (with_reducible assumption) | (with_reducible refine Below.alloc ?_ ?_ _) | (with_reducible refine Below.drew ?_) | (with_reducible refine bdN ?_ _) | (with_reducible refine Below.setCell ?_ ?_ _) | (with_reducible refine chn ?_ (by assumption) ?_) | omega | (simp; done) | (simp; omega)))

set_option maxRecDepth 100000 in
set_option maxHeartbeats 4000000 in
theorem it_s_f {n : Int} (h : inB n 1 5 = false) (w : World) :
    Calls Try.prog 44 #[.int .i64 n] w fun ee w' => ee = .returned (.tuple #[tableauV 0 none 0 0 none 0 0, .bool false]) ∧ Below w.heap.size w w' := by
  have HX := lay h
  clear h
  go_enter Try.func44, Try.ntmps44
  go_wp2_with (fail)
  refine (lin HX.out _).mono ?_
  rintro ee w1 ⟨rfl, rfl⟩
  go_wp2_with (fail)
  refine bodyPost_ret (v := .tuple #[.agg #[.int .i64 0, .slice none 0 0, .slice none 0 0], .bool false]) (by first | (simp [results, Try.results44, go_sem, *]; done) | (simp (disch := (first | omega | (simp; done) | (simp; omega))) [results, Try.results44, go_sem, *]; done) | (simp only [results, Try.results44]; go_simp; done)) rfl ⟨rfl, ?_⟩
  (repeat' (first | (with_reducible exact Below.refl _ _) | (with_reducible assumption) | (with_reducible refine Below.alloc ?_ ?_ _) | (with_reducible refine Below.drew ?_) | (with_reducible refine bdN ?_ _) | (with_reducible refine Below.setCell ?_ ?_ _) | (with_reducible refine chn ?_ (by assumption) ?_) | omega | (simp; done) | (simp; omega)))

set_option maxRecDepth 100000 in
set_option maxHeartbeats 4000000 in
theorem it_s_t {k : Nat} (q1 : 1 ≤ k) (q5 : k ≤ 5) (w : World) :
    Calls Try.prog 44 #[.int .i64 (k : Int)] w fun ee w' => ∃ (A1 : Option Addr) (c1 : Nat) (A2 : Option Addr) (c2 : Nat), ee = .returned (.tuple #[tableauV k A1 k c1 A2 k c2, .bool true]) ∧ (Rd pauliE w' A1 (tab k genX) ∧ (∀ a, A1 = some a → w.heap.size ≤ a.block)) ∧ (Rd pauliE w' A2 (tab k genZ) ∧ (∀ a, A2 = some a → w.heap.size ≤ a.block)) ∧ Below w.heap.size w w' := by
  have HX := lay (inB_t (x := (k : Int)) (lo := 1) (hi := 5) (by omega) (by omega))
  go_enter Try.func44, Try.ntmps44
  go_wp2_with (fail)
  refine (lin HX.out _).mono ?_
  rintro ee w1 ⟨rfl, rfl⟩
  go_wp2_with (fail)
  refine (l7id q1 q5 _).mono ?_
  rintro ee w2 ⟨vx, vz, rfl, hO, hb2⟩
  have hz2 := hb2.size
  (try simp only [World.size_alloc] at hz2)
  have Xz : Hid (Bb w2 (w.heap.size) 67 #[.int .i64 0, .slice none 0 0, .slice none 0 0]) := by show Bb _ _ _ _; (repeat' (first | (with_reducible assumption) | (refine Bb.new (by first | (with_reducible rfl) | (simp; done))) | (with_reducible refine Bb.alloc ?_ _) | (with_reducible refine Bb.drew ?_) | (with_reducible refine Bb.drewN ?_ _) | (with_reducible refine Bb.mono ?_ (by assumption)) | (with_reducible refine Bb.far ?_ (by (try simp only [World.size_alloc, World.size_drew]); omega)) | (with_reducible refine Bb.set ?_ rfl) | (with_reducible refine Bb.grown ?_ (by assumption) (by assumption))))
  have hB2 : Below w.heap.size w w2 := by (repeat' (first | (with_reducible exact Below.refl _ _) | (with_reducible assumption) | (with_reducible refine Below.alloc ?_ ?_ _) | (with_reducible refine Below.drew ?_) | (with_reducible refine bdN ?_ _) | (with_reducible refine Below.setCell ?_ ?_ _) | (with_reducible refine chn ?_ (by assumption) ?_) | omega | (simp; done) | (simp; omega)))
  obtain ⟨A1, c1, A2, c2, rfl, rfl, ⟨r1, l1⟩, r2, l2⟩ := hO.rd
  rw [tab_len, tab_len]
  (try simp only [World.size_alloc] at l1 l2)
  have R1 := lay r1
  have R2 := lay r2
  have L1 := lay l1
  have L2 := lay l2
  clear hO hb2 r1 r2 l1 l2
  have cz0 := Xz.out.c 0 rfl
  have cz1 := Xz.out.c 1 rfl
  have cz2 := Xz.out.c 2 rfl
  have lz := Xz.out.lt
  have fz := Xz.out.f
  go_wp2_with (fail)
  refine bodyPost_ret (v := .tuple #[tableauV k A1 k c1 A2 k c2, .bool true]) (by first | (simp [results, Try.results44, go_sem, *]; done) | (simp (disch := (first | omega | (simp; done) | (simp; omega))) [results, Try.results44, go_sem, *]; done) | (simp only [results, Try.results44]; go_simp; done)) rfl ⟨_, _, _, _, rfl, ⟨?_, ?_⟩, ⟨?_, ?_⟩, ?_⟩
  · exact (((R1.out.far (fun a ha => by have := (L1.out a ha).1; show a.block ≠ w.heap.size; omega) _).far (fun a ha => by have := (L1.out a ha).1; show a.block ≠ w.heap.size; omega) _).far (fun a ha => by have := (L1.out a ha).1; show a.block ≠ w.heap.size; omega) _)
  · intro a ha; have := (L1.out a ha).1; omega
  · exact (((R2.out.far (fun a ha => by have := (L2.out a ha).1; show a.block ≠ w.heap.size; omega) _).far (fun a ha => by have := (L2.out a ha).1; show a.block ≠ w.heap.size; omega) _).far (fun a ha => by have := (L2.out a ha).1; show a.block ≠ w.heap.size; omega) _)
  · intro a ha; have := (L2.out a ha).1; omega
  · (repeat' (first | (with_reducible exact Below.refl _ _) | (with_reducible assumption) | (with_reducible refine Below.alloc ?_ ?_ _) | (with_reducible refine Below.drew ?_) | (with_reducible refine bdN ?_ _) | (with_reducible refine Below.setCell ?_ ?_ _) | (with_reducible refine chn ?_ (by assumption) ?_) | omega | (simp; done) | (simp; omega)))

set_option maxRecDepth 100000 in
set_option maxHeartbeats 4000000 in
theorem it_i_t {k : Nat} (q1 : 1 ≤ k) (q5 : k ≤ 5) (w : World) :
    Calls Try.prog 45 #[.int .i64 (k : Int)] w fun ee w' => ∃ (A1 : Option Addr) (c1 : Nat) (A2 : Option Addr) (c2 : Nat), ee = .returned (.tuple #[tableauV k A1 k c1 A2 k c2, .bool true]) ∧ Ow pauliE w' w.heap.size 45 A1 (tab k genX) ∧ Ow pauliE w' w.heap.size 45 A2 (tab k genZ) ∧ (∀ r, blk A1 = some r → blk A2 ≠ some r) ∧ Below w.heap.size w w' := by
  have HX := lay (inB_t (x := (k : Int)) (lo := 1) (hi := 5) (by omega) (by omega))
  go_enter Try.func45, Try.ntmps45
  go_wp2_with (fail)
  refine (iqc HX.out _).mono ?_
  rintro ee w1 ⟨rfl, rfl⟩
  go_wp2_with (fail)
  refine (idt q1 q5 _).mono ?_
  rintro ee w2 ⟨gx, gz, rfl, hK1, hK2, l1, l2, hne, hb2⟩
  have hz2 := hb2.size
  (try simp only [World.size_alloc] at hz2 l1 l2)
  have Xz : Hid (Bb w2 (w.heap.size) 67 #[.int .i64 0, .slice none 0 0, .slice none 0 0]) := by show Bb _ _ _ _; (repeat' (first | (with_reducible assumption) | (refine Bb.new (by first | (with_reducible rfl) | (simp; done))) | (with_reducible refine Bb.alloc ?_ _) | (with_reducible refine Bb.drew ?_) | (with_reducible refine Bb.drewN ?_ _) | (with_reducible refine Bb.mono ?_ (by assumption)) | (with_reducible refine Bb.far ?_ (by (try simp only [World.size_alloc, World.size_drew]); omega)) | (with_reducible refine Bb.set ?_ rfl) | (with_reducible refine Bb.grown ?_ (by assumption) (by assumption))))
  have hB2 : Below w.heap.size w w2 := by (repeat' (first | (with_reducible exact Below.refl _ _) | (with_reducible assumption) | (with_reducible refine Below.alloc ?_ ?_ _) | (with_reducible refine Below.drew ?_) | (with_reducible refine bdN ?_ _) | (with_reducible refine Below.setCell ?_ ?_ _) | (with_reducible refine chn ?_ (by assumption) ?_) | omega | (simp; done) | (simp; omega)))
  have R1 := lay hK1
  have R2 := lay hK2
  clear hb2 hK1 hK2
  have cz0 := Xz.out.c 0 rfl
  have cz1 := Xz.out.c 1 rfl
  have cz2 := Xz.out.c 2 rfl
  have lz := Xz.out.lt
  have fz := Xz.out.f
  go_wp2_with (fail)
  refine bodyPost_ret (v := .tuple #[tableauV k (some ⟨gx, 0, none⟩) k k (some ⟨gz, 0, none⟩) k k, .bool true]) (by first | (simp [results, Try.results45, go_sem, *]; done) | (simp (disch := (first | omega | (simp; done) | (simp; omega))) [results, Try.results45, go_sem, *]; done) | (simp only [results, Try.results45]; go_simp; done)) rfl ⟨_, _, _, _, rfl, ?_, ?_, ?_, ?_⟩
  · exact Bk.ow (((R1.out.far (by show gx ≠ w.heap.size; omega) _).far (by show gx ≠ w.heap.size; omega) _).far (by show gx ≠ w.heap.size; omega) _) (by omega)
  · exact Bk.ow (((R2.out.far (by show gz ≠ w.heap.size; omega) _).far (by show gz ≠ w.heap.size; omega) _).far (by show gz ≠ w.heap.size; omega) _) (by omega)
  · intro r h1 h2; cases h1; cases h2; exact hne rfl
  · (repeat' (first | (with_reducible exact Below.refl _ _) | (with_reducible assumption) | (with_reducible refine Below.alloc ?_ ?_ _) | (with_reducible refine Below.drew ?_) | (with_reducible refine bdN ?_ _) | (with_reducible refine Below.setCell ?_ ?_ _) | (with_reducible refine chn ?_ (by assumption) ?_) | omega | (simp; done) | (simp; omega)))

end Go.Proofs.Ytgcligmpdlffoaa.C4
