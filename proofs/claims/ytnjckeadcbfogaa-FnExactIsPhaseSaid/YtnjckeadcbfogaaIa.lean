/- IsPhase: the program; what both refuse. -/
import Derived.Test.YtnjckeadcbfogaaZp35
import Derived.Test.YtnjckeadcbfogaaPh3
namespace Go.Proofs.Ytnjckeadcbfogaa
open Go.RowKit RM
set_option linter.unusedVariables false
set_option linter.unusedSimpArgs false
attribute [local irreducible] World.setCell

open GM
set_option maxRecDepth 100000 in
set_option maxHeartbeats 4000000 in
theorem ip_s_f {a0 : Int} {A : Option Addr} {m c1 : Nat} {gs : List C4.GateV} {w : World} (hF : ∀ W : World, Below w.heap.size w W → Calls Try.prog 31 #[C4.circuitV a0 A m c1] W fun ee w' => ee = .returned (mt 0 0 none 0 0 false) ∧ Below W.heap.size W w') :
    Calls Try.prog 40 #[C4.circuitV a0 A m c1] w fun ee w' => ee = .returned (.tuple #[.int .i64 0, .bool false, .bool false]) ∧ Below w.heap.size w w' := by
  have HF := hid hF
  clear hF
  go_enter Try.func40, Try.ntmps40
  go_wp2_with (fail)
  refine (HF.out _ (by (repeat' (first | (with_reducible exact Below.refl _ _) | (with_reducible assumption) | (with_reducible refine Below.alloc ?_ ?_ _) | (with_reducible refine Below.drew ?_) | (with_reducible refine below_drewN ?_ _) | (with_reducible refine Below.setCell ?_ ?_ _) | (with_reducible refine chain ?_ (by assumption) ?_) | omega | (simp; done) | (simp; omega))))).mono ?_
  rintro ee w1 ⟨rfl, hb1⟩
  obtain ⟨hc1, hf1, _⟩ := bcell hb1; have hz1 := hb1.size; (try simp at hz1); (try have hx10 : w.heap.size < w1.heap.size := (by omega)); (try have hx11 : w.heap.size + 1 < w1.heap.size := (by omega)); (try have hx12 : w.heap.size + 1 + 1 < w1.heap.size := (by omega))
  go_wp2_with (fail)
  refine bodyPost_ret (v := .tuple #[.int .i64 0, .bool false, .bool false]) (by first | (simp [results, Try.results40, go_sem, *]; done) | (simp (disch := (first | omega | (simp; done) | (simp; omega))) [results, Try.results40, go_sem, *]; done) | (simp only [results, Try.results40]; go_simp; done)) rfl ⟨rfl, ?_⟩
  (repeat' (first | (with_reducible exact Below.refl _ _) | (with_reducible assumption) | (with_reducible refine Below.alloc ?_ ?_ _) | (with_reducible refine Below.drew ?_) | (with_reducible refine below_drewN ?_ _) | (with_reducible refine Below.setCell ?_ ?_ _) | (with_reducible refine chain ?_ (by assumption) ?_) | omega | (simp; done) | (simp; omega)))

set_option maxRecDepth 100000 in
set_option maxHeartbeats 4000000 in
theorem ip_i_f {a0 : Int} {A : Option Addr} {m c1 : Nat} {gs : List C4.GateV} {w : World} (hF : ∀ W : World, Below w.heap.size w W → Calls Try.prog 33 #[C4.circuitV a0 A m c1] W fun ee w' => ee = .returned (mt 0 0 none 0 0 false) ∧ Below W.heap.size W w') :
    Calls Try.prog 41 #[C4.circuitV a0 A m c1] w fun ee w' => ee = .returned (.tuple #[.int .i64 0, .bool false, .bool false]) ∧ Below w.heap.size w w' := by
  have HF := hid hF
  clear hF
  go_enter Try.func41, Try.ntmps41
  go_wp2_with (fail)
  refine (HF.out _ (by (repeat' (first | (with_reducible exact Below.refl _ _) | (with_reducible assumption) | (with_reducible refine Below.alloc ?_ ?_ _) | (with_reducible refine Below.drew ?_) | (with_reducible refine below_drewN ?_ _) | (with_reducible refine Below.setCell ?_ ?_ _) | (with_reducible refine chain ?_ (by assumption) ?_) | omega | (simp; done) | (simp; omega))))).mono ?_
  rintro ee w1 ⟨rfl, hb1⟩
  obtain ⟨hc1, hf1, _⟩ := bcell hb1; have hz1 := hb1.size; (try simp at hz1); (try have hx10 : w.heap.size < w1.heap.size := (by omega)); (try have hx11 : w.heap.size + 1 < w1.heap.size := (by omega)); (try have hx12 : w.heap.size + 1 + 1 < w1.heap.size := (by omega))
  go_wp2_with (fail)
  refine bodyPost_ret (v := .tuple #[.int .i64 0, .bool false, .bool false]) (by first | (simp [results, Try.results41, go_sem, *]; done) | (simp (disch := (first | omega | (simp; done) | (simp; omega))) [results, Try.results41, go_sem, *]; done) | (simp only [results, Try.results41]; go_simp; done)) rfl ⟨rfl, ?_⟩
  (repeat' (first | (with_reducible exact Below.refl _ _) | (with_reducible assumption) | (with_reducible refine Below.alloc ?_ ?_ _) | (with_reducible refine Below.drew ?_) | (with_reducible refine below_drewN ?_ _) | (with_reducible refine Below.setCell ?_ ?_ _) | (with_reducible refine chain ?_ (by assumption) ?_) | omega | (simp; done) | (simp; omega)))

set_option maxRecDepth 100000 in
set_option maxHeartbeats 8000000 in
theorem ip_i_t {a0 : Int} {A : Option Addr} {m c1 D NN : Nat} {gs : List C4.GateV} {zs : List D5} {w : World} (hF : ∀ W : World, Below w.heap.size w W → Calls Try.prog 33 #[C4.circuitV a0 A m c1] W fun ee w' => ∃ h : Nat, ee = .returned (mt (D : Int) (D : Int) (some ⟨h, 0, none⟩) NN NN true) ∧ Bk w' h 59 zs ∧ Below W.heap.size W w') (hl : zs.length = NN) (hNN : NN = D * D) (h1 : 1 ≤ D) (d32 : D ≤ 32) (hzs : okM (D : Int) (D : Int) NN zs = true) :
    Calls Try.prog 41 #[C4.circuitV a0 A m c1] w fun ee w' => PH mk3 (badK (D : Int) (D : Int) (D : Int) (D : Int) NN zs (tab NN (unitP D D))) w w' ee := by
  have HF := hid hF
  have HL := hid hl
  have nn5 : NN ≤ 1024 := by rw [hNN]; exact Nat.mul_le_mul d32 d32
  have EQ := hid hNN
  have hdd := (okM_iff.1 hzs).1
  have DD := hid hdd
  have HZ := hid hzs
  have hu : okM (D : Int) (D : Int) NN (tab NN (unitP D D)) = true := okM_iff.2 ⟨hdd, hdd, by rw [hNN]; simp, unit_ok D⟩
  have HU := hid hu
  clear hF hl hNN hdd hzs hu
  go_enter Try.func41, Try.ntmps41
  go_wp2_with (fail)
  refine (HF.out _ (by (repeat' (first | (with_reducible exact Below.refl _ _) | (with_reducible assumption) | (with_reducible refine Below.alloc ?_ ?_ _) | (with_reducible refine Below.drew ?_) | (with_reducible refine below_drewN ?_ _) | (with_reducible refine Below.setCell ?_ ?_ _) | (with_reducible refine chain ?_ (by assumption) ?_) | omega | (simp; done) | (simp; omega))))).mono ?_
  rintro ee w1 ⟨h, rfl, hK1, hb1⟩
  have hz1 := hb1.size
  (try simp only [World.size_alloc] at hz1)
  have hw1 : Below w.heap.size w w1 := by (repeat' (first | (with_reducible exact Below.refl _ _) | (with_reducible assumption) | (with_reducible refine Below.alloc ?_ ?_ _) | (with_reducible refine Below.drew ?_) | (with_reducible refine below_drewN ?_ _) | (with_reducible refine Below.setCell ?_ ?_ _) | (with_reducible refine chain ?_ (by assumption) ?_) | omega | (simp; done) | (simp; omega)))
  have HK1 := hid hK1
  clear hK1 hb1
  go_wp2_with (fail)
  refine (id_i_t (N := D) (n := NN) DD.out EQ.out h1 d32 nn5).mono ?_
  rintro ee w2 ⟨g, rfl, hK2, hg2, hb2⟩
  have hz2 := hb2.size
  (try simp only [World.size_alloc] at hz2)
  have hb12 : Below w1.heap.size w1 w2 := by (repeat' (first | (with_reducible exact Below.refl _ _) | (with_reducible assumption) | (with_reducible refine Below.alloc ?_ ?_ _) | (with_reducible refine Below.drew ?_) | (with_reducible refine below_drewN ?_ _) | (with_reducible refine Below.setCell ?_ ?_ _) | (with_reducible refine chain ?_ (by assumption) ?_) | omega | (simp; done) | (simp; omega)))
  have hw2 : Below w.heap.size w w2 := chain hw1 hb12 hw1.size
  have Xm : Bx w2 w1.heap.size 28 #[.int .i64 (D : Int), .int .i64 (D : Int), .slice (some ⟨h, 0, none⟩) NN NN] := Bx.mono (Bx.new rfl) hb2
  have cm0 := Xm.c 0 rfl
  have cm1 := Xm.c 1 rfl
  have cm2 := Xm.c 2 rfl
  have lm := Xm.lt
  have HK2 := hid hK2
  clear hK2 hb2
  go_wp2_with (fail)
  refine (up_i_t (xs := zs) (ys := tab NN (unitP D D)) ?_ ?_ HL.out (tab_len _ _) HZ.out HU.out).mono ?_
  · exact (HK1.out.mono hb12).rd.mono (by (repeat' (first | (with_reducible exact Below.refl _ _) | (with_reducible assumption) | (with_reducible refine Below.alloc ?_ ?_ _) | (with_reducible refine Below.drew ?_) | (with_reducible refine below_drewN ?_ _) | (with_reducible refine Below.setCell ?_ ?_ _) | (with_reducible refine chain ?_ (by assumption) ?_) | omega | (simp; done) | (simp; omega))))
  · exact HK2.out.rd.mono (by (repeat' (first | (with_reducible exact Below.refl _ _) | (with_reducible assumption) | (with_reducible refine Below.alloc ?_ ?_ _) | (with_reducible refine Below.drew ?_) | (with_reducible refine below_drewN ?_ _) | (with_reducible refine Below.setCell ?_ ?_ _) | (with_reducible refine chain ?_ (by assumption) ?_) | omega | (simp; done) | (simp; omega))))
  rintro ee w3 ⟨q1, q2, hb3⟩
  have hz3 := hb3.size
  (try simp only [World.size_alloc] at hz3)
  have hb23 : Below w2.heap.size w2 w3 := by (repeat' (first | (with_reducible exact Below.refl _ _) | (with_reducible assumption) | (with_reducible refine Below.alloc ?_ ?_ _) | (with_reducible refine Below.drew ?_) | (with_reducible refine below_drewN ?_ _) | (with_reducible refine Below.setCell ?_ ?_ _) | (with_reducible refine chain ?_ (by assumption) ?_) | omega | (simp; done) | (simp; omega)))
  have hw3 : Below w.heap.size w w3 := chain hw2 hb23 hw2.size
  rcases ph_any (badK (D : Int) (D : Int) (D : Int) (D : Int) NN zs (tab NN (unitP D D))) with ⟨K, k1, k2, k3⟩ | k
  · obtain rfl : ee = .returned (.tuple #[.int .i64 (K : Int), .bool true, .bool true]) := q1 K k1 k2 k3
    have K1 := hid k1
    have K2 := hid k2
    have K3 := hid k3
    clear q1 q2 k1 k2 k3
    go_wp2_with (fail)
    refine bodyPost_ret (v := .tuple #[.int .i64 (K : Int), .bool true, .bool true]) (by first | (simp [results, Try.results41, go_sem, *]; done) | (simp (disch := (first | omega | (simp; done) | (simp; omega))) [results, Try.results41, go_sem, *]; done) | (simp only [results, Try.results41]; go_simp; done)) rfl (PH.found K1.out K2.out K3.out rfl hw3)
  · obtain rfl : ee = .returned (.tuple #[.int .i64 0, .bool false, .bool true]) := q2 k
    have HH := hid k
    clear q1 q2 k
    go_wp2_with (fail)
    refine bodyPost_ret (v := .tuple #[.int .i64 0, .bool false, .bool true]) (by first | (simp [results, Try.results41, go_sem, *]; done) | (simp (disch := (first | omega | (simp; done) | (simp; omega))) [results, Try.results41, go_sem, *]; done) | (simp only [results, Try.results41]; go_simp; done)) rfl (PH.none HH.out rfl hw3)

end Go.Proofs.Ytnjckeadcbfogaa
