/- QubitWeight: the program. -/
import Derived.Test.YtnjckeadcbfogaaQwd
import Derived.Test.YtnjckeadcbfogaaMulTwo
import Derived.Test.YtnjckeadcbfogaaZp18
import Derived.Test.YtnjckeadcbfogaaZp19
import Derived.Test.YtnjckeadcbfogaaZp14
import Derived.Test.YtnjckeadcbfogaaZp4
import Derived.Test.YtnjckeadcbfogaaZp6
import Derived.Test.YtnjckeadcbfogaaZp25
import Derived.Test.YtnjckeadcbfogaaZp2
import Derived.Test.YtnjckeadcbfogaaZp21
import Derived.Test.YtnjckeadcbfogaaZp15
namespace Go.Proofs.Ytnjckeadcbfogaa
open Go.RowKit RM
set_option linter.unusedVariables false
set_option linter.unusedSimpArgs false
attribute [local irreducible] World.setCell

open GM
theorem ins_t {x : D5} (hx : x.ok = true) (h : (mulS false x (conj5 x)).2 = false) (w : World) : Calls Try.prog 105 #[x.v] w fun ee w' => ee = .returned (.tuple #[(mulS false x (conj5 x)).1.v, .bool true]) ∧ Below w.heap.size w w' := by
  obtain ⟨a, b, c, d, e'⟩ := x
  obtain ⟨e, h1, h2⟩ := ok_nat hx
  have h1 : e' = (e : Int) := h1
  subst h1
  exact ns_i a b c d e _ _ _ _ _ true w h2 (fun w => imul_t (x := ⟨a, b, c, d, e⟩) (y := conj5 ⟨a, b, c, d, e⟩) hx (conj_ok hx) h w)
theorem ins_f {x : D5} (hx : x.ok = true) (h : (mulS false x (conj5 x)).2 = true) (w : World) : Calls Try.prog 105 #[x.v] w fun ee w' => ee = .returned (dt 0 0 0 0 0 false) ∧ Below w.heap.size w w' := by
  obtain ⟨a, b, c, d, e'⟩ := x
  obtain ⟨e, h1, h2⟩ := ok_nat hx
  have h1 : e' = (e : Int) := h1
  subst h1
  exact ns_i a b c d e _ _ _ _ _ false w h2 (fun w => imul_f (x := ⟨a, b, c, d, e⟩) (y := conj5 ⟨a, b, c, d, e⟩) hx (conj_ok hx) h w)

set_option maxRecDepth 100000 in
set_option maxHeartbeats 8000000 in
theorem qw_i_t {n q : Nat} {s : Int} {A : Option Addr} {m c : Nat} {r t : Int} {k : Nat} {zs : List D5} {w : World} (h1 : ∀ W : World, Below w.heap.size w W → Calls Try.prog 37 #[C4.circuitV (n : Int) A m c, .int .i64 s] W fun ee w' => ∃ (Bo : Option Addr) (cq : Nat), ee = .returned (mt r t Bo k cq true) ∧ Rd w' Bo zs ∧ Below W.heap.size W w') (q1 : 1 ≤ n) (q5 : n ≤ 5) (hK : k = 2 ^ n) (hq : q < n) (hl : zs.length = k) (hall : ∀ (j : Nat) (x : D5), zs[j]? = some x → x.ok = true) :
    Calls Try.prog 46 #[C4.circuitV (n : Int) A m c, .int .i64 s, .int .i64 (q : Int)] w fun ee w' => TR w w' ee (qwF n q zs k) := by
  have hk1 : 1 ≤ k := by rw [hK]; exact Nat.one_le_two_pow
  have hk32 : k ≤ 32 := by rw [hK]; exact Nat.pow_le_pow_right (by decide) q5
  have HL := hid hl
  have HA := hid hall
  have HQ := hid (C4.inB_t (x := (q : Int)) (lo := 0) (hi := (n : Int) - 1) (by omega) (by omega))
  clear hK hl hall
  have H1 := hid h1
  clear h1
  go_enter Try.func46, Try.ntmps46
  go_wp2_with (fail)
  refine (H1.out _ (by (repeat' (first | (with_reducible exact Below.refl _ _) | (with_reducible assumption) | (with_reducible refine Below.alloc ?_ ?_ _) | (with_reducible refine Below.drew ?_) | (with_reducible refine below_drewN ?_ _) | (with_reducible refine Below.setCell ?_ ?_ _) | (with_reducible refine chain ?_ (by assumption) ?_) | omega | (simp; done) | (simp; omega))))).mono ?_
  rintro ee w1 ⟨Bo1, cq1, rfl, hR1, hb1⟩
  have Xa1 : Bx w1 (w.heap.size) 45 #[.int .i64 (n : Int), .slice A m c] := by (repeat' (first | (with_reducible assumption) | (refine Bx.new (by first | (with_reducible rfl) | (simp; done))) | (with_reducible refine Bx.alloc ?_ _) | (with_reducible refine Bx.drew ?_) | (with_reducible refine Bx.drewN ?_ _) | (with_reducible refine Bx.mono ?_ (by assumption)) | (with_reducible refine Bx.badly ?_ (by assumption) (by omega)) | (with_reducible refine Bx.far ?_ (by (try simp only [World.size_alloc, World.size_drew]); omega)) | (with_reducible refine Bx.set ?_ rfl) | (with_reducible refine Bx.grown ?_ (by assumption) (by assumption))))
  have Xz1 : Bx w1 (w.heap.size + 1) 59 #[.int .i64 0, .int .i64 0, .int .i64 0, .int .i64 0, .int .i64 0] := by (repeat' (first | (with_reducible assumption) | (refine Bx.new (by first | (with_reducible rfl) | (simp; done))) | (with_reducible refine Bx.alloc ?_ _) | (with_reducible refine Bx.drew ?_) | (with_reducible refine Bx.drewN ?_ _) | (with_reducible refine Bx.mono ?_ (by assumption)) | (with_reducible refine Bx.badly ?_ (by assumption) (by omega)) | (with_reducible refine Bx.far ?_ (by (try simp only [World.size_alloc, World.size_drew]); omega)) | (with_reducible refine Bx.set ?_ rfl) | (with_reducible refine Bx.grown ?_ (by assumption) (by assumption))))
  have hz1 := hb1.size
  (try simp only [World.size_alloc] at hz1)
  have hw1 : Below w.heap.size w w1 := by (repeat' (first | (with_reducible exact Below.refl _ _) | (with_reducible assumption) | (with_reducible refine Below.alloc ?_ ?_ _) | (with_reducible refine Below.drew ?_) | (with_reducible refine below_drewN ?_ _) | (with_reducible refine Below.setCell ?_ ?_ _) | (with_reducible refine chain ?_ (by assumption) ?_) | omega | (simp; done) | (simp; omega)))
  have HR1 := hid hR1
  have a0' := Xa1.c 0 rfl
  have a1' := Xa1.c 1 rfl
  have la := Xa1.lt
  have lz := Xz1.lt
  have fz := Xz1.f
  have z0' := Xz1.c 0 rfl
  have z1' := Xz1.c 1 rfl
  have z2' := Xz1.c 2 rfl
  have z3' := Xz1.c 3 rfl
  have z4' := Xz1.c 4 rfl
  clear hb1 hR1
  have Xa2 : Hid (Bx w1 (w.heap.size) 45 #[.int .i64 (n : Int), .slice A m c]) := Xa1
  have Xz2 : Hid (Bx w1 (w.heap.size + 1) 59 #[.int .i64 0, .int .i64 0, .int .i64 0, .int .i64 0, .int .i64 0]) := Xz1
  clear Xa1 Xz1
  go_wp2_with ((go_at_call 112; ((with_reducible refine (C4.iq HQ.out _).mono ?_); rintro ee w3 ⟨rfl, rfl⟩)))
  go_loopg [34] k (fun p s1 wr => ∃ (j : Nat) (s9 : D5), j + p = k ∧ s1 = .int .i64 (j : Int) ∧ Hid (Bx wr (w.heap.size) 45 #[.int .i64 (n : Int), .slice A m c]) ∧ Hid (Bx wr (w.heap.size + 1) 59 #[.int .i64 0, .int .i64 0, .int .i64 0, .int .i64 0, .int .i64 0]) ∧ Hid (Bx wr (w1.heap.size + 1) 59 #[.int .i64 s9.a, .int .i64 s9.b, .int .i64 s9.c, .int .i64 s9.d, .int .i64 s9.e]) ∧ Hid (qwF n q zs j = (s9, false)) ∧ Hid (s9.ok = true) ∧ w1.heap.size + 1 + 1 ≤ wr.heap.size ∧ Below w1.heap.size w1 wr)
  case atStart =>
    have R1 := Xa2.out
    have R2 := Xz2.out
    refine ⟨0, z5, by omega, rfl, ?_, ?_, ?_, rfl, hid z5_ok, ?_, ?_⟩
    · show Bx _ _ _ _; (repeat' (first | (with_reducible assumption) | (with_reducible refine Bx.alloc ?_ _)))
    · show Bx _ _ _ _; (repeat' (first | (with_reducible assumption) | (with_reducible refine Bx.alloc ?_ _)))
    · show Bx _ _ _ _; exact Bx.new (by simp)
    · (try simp only [World.size_alloc]); omega
    · (repeat' (first | (with_reducible exact Below.refl _ _) | (with_reducible assumption) | (with_reducible refine Below.alloc ?_ ?_ _) | (with_reducible refine Below.drew ?_) | (with_reducible refine below_drewN ?_ _) | (with_reducible refine Below.setCell ?_ ?_ _) | (with_reducible refine chain ?_ (by assumption) ?_) | omega | (simp; done) | (simp; omega)))
  case round =>
    obtain ⟨j, s9, hj, rfl, Xa, Xz, Xo, HS, HK, hsz, hBr⟩ := hrel
    clear Xa2 Xz2 a0' a1' z0' z1' z2' z3' z4' la lz fz
    have ca0 := Xa.out.c 0 rfl
    have ca1 := Xa.out.c 1 rfl
    have la := Xa.out.lt
    have fa := Xa.out.f
    have cz0 := Xz.out.c 0 rfl
    have cz1 := Xz.out.c 1 rfl
    have cz2 := Xz.out.c 2 rfl
    have cz3 := Xz.out.c 3 rfl
    have cz4 := Xz.out.c 4 rfl
    have lz := Xz.out.lt
    have fz := Xz.out.f
    have co0 := Xo.out.c 0 rfl
    have co1 := Xo.out.c 1 rfl
    have co2 := Xo.out.c 2 rfl
    have co3 := Xo.out.c 3 rfl
    have co4 := Xo.out.c 4 rfl
    have lo := Xo.out.lt
    have fo := Xo.out.f
    have hB : Below w.heap.size w wr := chain hw1 hBr hw1.size
    have hBs := hBr.size
    cases gk with
    | zero =>
      obtain rfl : j = k := by omega
      go_wp2_with (fail)
      refine bodyPost_ret (v := dt s9.a s9.b s9.c s9.d s9.e true) (by first | (simp [results, Try.results46, go_sem, *]; done) | (simp (disch := (first | omega | (simp; done) | (simp; omega))) [results, Try.results46, go_sem, *]; done) | (simp only [results, Try.results46]; go_simp; done)) rfl (TR.t HS.out ?_)
      (repeat' (first | (with_reducible exact Below.refl _ _) | (with_reducible assumption) | (with_reducible refine Below.alloc ?_ ?_ _) | (with_reducible refine Below.drew ?_) | (with_reducible refine below_drewN ?_ _) | (with_reducible refine Below.setCell ?_ ?_ _) | (with_reducible refine chain ?_ (by assumption) ?_) | omega | (simp; done) | (simp; omega)))
    | succ p =>
      have hlt : j < k := by omega
      have jl : (j : Int) < (k : Int) := by omega
      have hx := get_of (xs := zs) (q := j) (by rw [HL.out]; exact hlt)
      obtain ⟨x, hxe⟩ : ∃ x, x = zs.getD j z5 := ⟨_, rfl⟩
      rw [← hxe] at hx
      have HX : Hid (zs.getD j z5 = x) := hid hxe.symm
      have HKx := hid (HA.out _ _ hx)
      obtain ⟨g9, o9, rfl, hC⟩ := HR1.out _ x hx
      have l9 := hC.lt
      obtain ⟨p0, p1, p2, p3, p4⟩ := hC.at_ (hBr.block g9 hC.lt)
      clear hC hx hxe
      have R1 := Xa.out
      have R2 := Xz.out
      have R4 := Xo.out
      rcases bitI_01 (n := n) (c := j) (q := q) with hb | hb
      · have LB : Hid (∀ W : World, Calls Try.prog 113 #[.agg #[.int .i64 (n : Int), .int .i64 (j : Int), .int .i64 0], .int .i64 (q : Int)] W fun ee w' => ee = .returned (.int .i64 0) ∧ Below W.heap.size W w') := fun W => kbit_0 q5 hq (by omega) (bitI_iff.1 hb)
        have HB := hid hb
        clear hb
        go_wp2_with ((go_at_call 113; ((with_reducible refine (LB.out _).mono ?_); rintro ee w3 ⟨rfl, hb3⟩)))
        have hz3 := hb3.size
        (try simp only [World.size_alloc] at hz3)
        have hd3 : Below w1.heap.size w1 w3 := by (repeat' (first | (with_reducible exact Below.refl _ _) | (with_reducible assumption) | (with_reducible refine Below.alloc ?_ ?_ _) | (with_reducible refine Below.drew ?_) | (with_reducible refine below_drewN ?_ _) | (with_reducible refine Below.setCell ?_ ?_ _) | (with_reducible refine chain ?_ (by assumption) ?_) | omega | (simp; done) | (simp; omega)))
        go_roundg p
        case measure => omega
        case rel =>
          refine ⟨j + 1, s9, by omega, by go_num, ?_, ?_, ?_, ?_, HK, ?_, hd3⟩
          · show Bx _ _ _ _; exact (R1.alloc _).mono hb3
          · show Bx _ _ _ _; exact (R2.alloc _).mono hb3
          · show Bx _ _ _ _; exact (R4.alloc _).mono hb3
          · show _ = _; rw [qwF_skip HB.out]; exact HS.out
          · omega
      · have LB : Hid (∀ W : World, Calls Try.prog 113 #[.agg #[.int .i64 (n : Int), .int .i64 (j : Int), .int .i64 0], .int .i64 (q : Int)] W fun ee w' => ee = .returned (.int .i64 1) ∧ Below W.heap.size W w') := fun W => kbit_1 q5 hq (by omega) (fun h => by rw [bitI_iff.2 h] at hb; cases hb)
        have HB := hid hb
        clear hb
        go_upto_region 9 with ((go_at_call 113; ((with_reducible refine (LB.out _).mono ?_); rintro ee w3 ⟨rfl, hb3⟩)))
        have hz3 := hb3.size
        (try simp only [World.size_alloc] at hz3)
        have hd3 : Below w1.heap.size w1 w3 := by (repeat' (first | (with_reducible exact Below.refl _ _) | (with_reducible assumption) | (with_reducible refine Below.alloc ?_ ?_ _) | (with_reducible refine Below.drew ?_) | (with_reducible refine below_drewN ?_ _) | (with_reducible refine Below.setCell ?_ ?_ _) | (with_reducible refine chain ?_ (by assumption) ?_) | omega | (simp; done) | (simp; omega)))
        have Zx : Bx w3 wr.heap.size 59 #[.int .i64 x.a, .int .i64 x.b, .int .i64 x.c, .int .i64 x.d, .int .i64 x.e] := (Bx.new rfl).mono hb3
        have Za := (R1.alloc _).mono hb3
        have Zz := (R2.alloc _).mono hb3
        have Zo := (R4.alloc _).mono hb3
        clear hb3
        have rx0 := Zx.c 0 rfl
        have rx1 := Zx.c 1 rfl
        have rx2 := Zx.c 2 rfl
        have rx3 := Zx.c 3 rfl
        have rx4 := Zx.c 4 rfl
        have rxl := Zx.lt
        cases hM : (mulS false x (conj5 x)).2
        · go_wp2_with (fail)
          refine (ins_t HKx.out hM _).mono ?_
          rintro ee w4 ⟨he, hb4⟩
          have hz4 := hb4.size
          have hd4 : Below w1.heap.size w1 w4 := chain hd3 hb4 hd3.size
          have Vaw4 : Bx w4 (w.heap.size) 45 #[.int .i64 (n : Int), .slice A m c] := Za.mono hb4
          have kaw40 := Vaw4.c 0 rfl
          have kaw41 := Vaw4.c 1 rfl
          have law4 := Vaw4.lt
          have faw4 := Vaw4.f
          have Vzw4 : Bx w4 (w.heap.size + 1) 59 #[.int .i64 0, .int .i64 0, .int .i64 0, .int .i64 0, .int .i64 0] := Zz.mono hb4
          have kzw40 := Vzw4.c 0 rfl
          have kzw41 := Vzw4.c 1 rfl
          have kzw42 := Vzw4.c 2 rfl
          have kzw43 := Vzw4.c 3 rfl
          have kzw44 := Vzw4.c 4 rfl
          have lzw4 := Vzw4.lt
          have fzw4 := Vzw4.f
          have Vow4 : Bx w4 (w1.heap.size + 1) 59 #[.int .i64 s9.a, .int .i64 s9.b, .int .i64 s9.c, .int .i64 s9.d, .int .i64 s9.e] := Zo.mono hb4
          have kow40 := Vow4.c 0 rfl
          have kow41 := Vow4.c 1 rfl
          have kow42 := Vow4.c 2 rfl
          have kow43 := Vow4.c 3 rfl
          have kow44 := Vow4.c 4 rfl
          have low4 := Vow4.lt
          have fow4 := Vow4.f
          have HMk := hid (mulS_ok (z := false) HKx.out (conj_ok HKx.out))
          obtain ⟨⟨m9, zm⟩, hm⟩ : ∃ y, mulS false x (conj5 x) = y := ⟨_, rfl⟩
          have hM : zm = false := by rw [hm] at hM; exact hM
          subst hM
          rw [hm] at HMk
          have HM := hid hm
          rw [hm] at he
          subst he
          clear hm
          have HMk : Hid (m9.ok = true) := HMk
          go_wp2_with (fail)
          cases hA : (addS false s9 m9).2
          · refine (iadd_t (x := s9) (y := m9) HK.out HMk.out hA _).mono ?_
            rintro ee w5 ⟨rfl, hb5⟩
            have hz5 := hb5.size
            (try simp only [World.size_alloc] at hz5)
            have hd5 : Below w1.heap.size w1 w5 := by (repeat' (first | (with_reducible exact Below.refl _ _) | (with_reducible assumption) | (with_reducible refine Below.alloc ?_ ?_ _) | (with_reducible refine Below.drew ?_) | (with_reducible refine below_drewN ?_ _) | (with_reducible refine Below.setCell ?_ ?_ _) | (with_reducible refine chain ?_ (by assumption) ?_) | omega | (simp; done) | (simp; omega)))
            have Ua : Bx w5 (w.heap.size) 45 #[.int .i64 (n : Int), .slice A m c] := (Vaw4.alloc _).mono hb5
            have Uz : Bx w5 (w.heap.size + 1) 59 #[.int .i64 0, .int .i64 0, .int .i64 0, .int .i64 0, .int .i64 0] := (Vzw4.alloc _).mono hb5
            have Uo : Bx w5 (w1.heap.size + 1) 59 #[.int .i64 s9.a, .int .i64 s9.b, .int .i64 s9.c, .int .i64 s9.d, .int .i64 s9.e] := (Vow4.alloc _).mono hb5
            have uo0 := Uo.c 0 rfl
            have uo1 := Uo.c 1 rfl
            have uo2 := Uo.c 2 rfl
            have uo3 := Uo.c 3 rfl
            have uo4 := Uo.c 4 rfl
            have fo5 := Uo.f
            have lo5 := Uo.lt
            go_wp2_with (fail)
            go_roundg p
            case measure => omega
            case rel =>
              refine ⟨j + 1, (addS false s9 m9).1, by omega, by go_num, Ua.far5 _ (by omega), Uz.far5 _ (by omega), Uo.set5 _, ?_, addS_ok HK.out HMk.out, by (try simp only [World.size_setCell]); omega, ?_⟩
              · show _ = _; rw [qwF_next HB.out HS.out HX.out, HM.out]; exact Prod.ext rfl hA
              · exact set5_below (x := (addS false s9 m9).1) hd5 (by omega)
          · refine (iadd_f (x := s9) (y := m9) HK.out HMk.out hA _).mono ?_
            rintro ee w5 ⟨rfl, hb5⟩
            have hz5 := hb5.size
            (try simp only [World.size_alloc] at hz5)
            have hd5 : Below w.heap.size w w5 := chain hw1 (show Below w1.heap.size w1 w5 from by (repeat' (first | (with_reducible exact Below.refl _ _) | (with_reducible assumption) | (with_reducible refine Below.alloc ?_ ?_ _) | (with_reducible refine Below.drew ?_) | (with_reducible refine below_drewN ?_ _) | (with_reducible refine Below.setCell ?_ ?_ _) | (with_reducible refine chain ?_ (by assumption) ?_) | omega | (simp; done) | (simp; omega)))) hw1.size
            have Uz : Bx w5 (w.heap.size + 1) 59 #[.int .i64 0, .int .i64 0, .int .i64 0, .int .i64 0, .int .i64 0] := (Vzw4.alloc _).mono hb5
            have uz0 := Uz.c 0 rfl
            have uz1 := Uz.c 1 rfl
            have uz2 := Uz.c 2 rfl
            have uz3 := Uz.c 3 rfl
            have uz4 := Uz.c 4 rfl
            have fz5 := Uz.f
            have lz5 := Uz.lt
            have Uo : Bx w5 (w1.heap.size + 1) 59 #[.int .i64 s9.a, .int .i64 s9.b, .int .i64 s9.c, .int .i64 s9.d, .int .i64 s9.e] := (Vow4.alloc _).mono hb5
            have uo0 := Uo.c 0 rfl
            have uo1 := Uo.c 1 rfl
            have uo2 := Uo.c 2 rfl
            have uo3 := Uo.c 3 rfl
            have uo4 := Uo.c 4 rfl
            have fo5 := Uo.f
            have lo5 := Uo.lt
            go_wp2_with (fail)
            refine bodyPost_ret (v := dt 0 0 0 0 0 false) (by first | (simp [results, Try.results46, go_sem, *]; done) | (simp (disch := (first | omega | (simp; done) | (simp; omega))) [results, Try.results46, go_sem, *]; done) | (simp only [results, Try.results46]; go_simp; done)) rfl (TR.f (qwF_up (j := j + 1) (by rw [qwF_next HB.out HS.out HX.out, HM.out]; exact hA) (by omega)) ?_)
            (repeat' (first | (with_reducible exact Below.refl _ _) | (with_reducible assumption) | (with_reducible refine Below.alloc ?_ ?_ _) | (with_reducible refine Below.drew ?_) | (with_reducible refine below_drewN ?_ _) | (with_reducible refine Below.setCell ?_ ?_ _) | (with_reducible refine chain ?_ (by assumption) ?_) | omega | (simp; done) | (simp; omega)))
        · go_wp2_with (fail)
          refine (ins_f HKx.out hM _).mono ?_
          rintro ee w4 ⟨rfl, hb4⟩
          have hz4 := hb4.size
          have hd4 : Below w.heap.size w w4 := chain hw1 (chain hd3 hb4 hd3.size) hw1.size
          have Vzw4 : Bx w4 (w.heap.size + 1) 59 #[.int .i64 0, .int .i64 0, .int .i64 0, .int .i64 0, .int .i64 0] := Zz.mono hb4
          have kzw40 := Vzw4.c 0 rfl
          have kzw41 := Vzw4.c 1 rfl
          have kzw42 := Vzw4.c 2 rfl
          have kzw43 := Vzw4.c 3 rfl
          have kzw44 := Vzw4.c 4 rfl
          have lzw4 := Vzw4.lt
          have fzw4 := Vzw4.f
          go_wp2_with (fail)
          refine bodyPost_ret (v := dt 0 0 0 0 0 false) (by first | (simp [results, Try.results46, go_sem, *]; done) | (simp (disch := (first | omega | (simp; done) | (simp; omega))) [results, Try.results46, go_sem, *]; done) | (simp only [results, Try.results46]; go_simp; done)) rfl (TR.f (qwF_up (j := j + 1) (by rw [qwF_next HB.out HS.out HX.out, hM]; exact addS_t) (by omega)) ?_)
          (repeat' (first | (with_reducible exact Below.refl _ _) | (with_reducible assumption) | (with_reducible refine Below.alloc ?_ ?_ _) | (with_reducible refine Below.drew ?_) | (with_reducible refine below_drewN ?_ _) | (with_reducible refine Below.setCell ?_ ?_ _) | (with_reducible refine chain ?_ (by assumption) ?_) | omega | (simp; done) | (simp; omega)))
end Go.Proofs.Ytnjckeadcbfogaa
