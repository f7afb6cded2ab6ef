/- Equal tableaux. -/
import Derived.Test.YtjedpeoafpljhaaE8a
import Derived.Test.YtjedpeoafpljhaaRgx
namespace Go.Proofs.Ytjedpeoafpljhaa.C4
open Go.RowKit
set_option linter.unusedVariables false
set_option linter.unusedSimpArgs false
attribute [local irreducible] World.setCell

set_option maxRecDepth 100000 in
set_option maxHeartbeats 4000000 in
theorem eqT_i {n c1 c2 d1 d2 : Nat} {A1 A2 B1 B2 : Option Addr} {xs zs us vs : List PauliV} {t : Bool} {w : World} (q5 : n ≤ 5) (ht : t = true ↔ (xs = us ∧ zs = vs)) (hA : Rd pauliE w A1 xs) (hB : Rd pauliE w A2 zs) (hC : Rd pauliE w B1 us) (hD : Rd pauliE w B2 vs) (hn : xs.length = n) (hm : zs.length = n) (hk : us.length = n) (hl : vs.length = n) :
    Calls Try.prog 103 #[tableauV (n : Int) A1 n c1 A2 n c2, tableauV (n : Int) B1 n d1 B2 n d2] w fun ee w' => ee = .returned (.bool t) ∧ Below w.heap.size w w' := by
  have HT := lay ht
  have HA := lay hA
  have HB := lay hB
  have HC := lay hC
  have HD := lay hD
  have hnl : n ≤ 1048576 := by omega
  by_cases hx : xs = us
  · have HU : Hid (t = true ↔ zs = vs) := ht.trans ⟨fun h => h.2, fun h => ⟨hx, h⟩⟩
    have HX := lay hx
    clear ht hA hB hC hD hx
    go_enter Try.func103, Try.ntmps103
    go_wp2_with (fail)
    refine (psleq (t := true) (xs := xs) (ys := us) ⟨fun _ => HX.out, fun _ => rfl⟩ ?_ ?_ hn hk hnl).mono ?_
    · exact HA.out.mono (by (repeat' (first | (with_reducible exact Below.refl _ _) | (with_reducible assumption) | (with_reducible refine Below.alloc ?_ ?_ _) | (with_reducible refine Below.drew ?_) | (with_reducible refine bdN ?_ _) | (with_reducible refine Below.setCell ?_ ?_ _) | (with_reducible refine chn ?_ (by assumption) ?_) | omega | (simp; done) | (simp; omega))))
    · exact HC.out.mono (by (repeat' (first | (with_reducible exact Below.refl _ _) | (with_reducible assumption) | (with_reducible refine Below.alloc ?_ ?_ _) | (with_reducible refine Below.drew ?_) | (with_reducible refine bdN ?_ _) | (with_reducible refine Below.setCell ?_ ?_ _) | (with_reducible refine chn ?_ (by assumption) ?_) | omega | (simp; done) | (simp; omega))))
    rintro ee w1 ⟨rfl, hb1⟩
    have hz1 := hb1.size
    (try simp only [World.size_alloc] at hz1)
    have Ya : Hid (Bb w1 (w.heap.size) 53 #[.int .i64 (n : Int), .slice A1 n c1, .slice A2 n c2]) := by show Bb _ _ _ _; (repeat' (first | (with_reducible assumption) | (refine Bb.new (by first | (with_reducible rfl) | (simp; done))) | (with_reducible refine Bb.alloc ?_ _) | (with_reducible refine Bb.drew ?_) | (with_reducible refine Bb.drewN ?_ _) | (with_reducible refine Bb.mono ?_ (by assumption)) | (with_reducible refine Bb.far ?_ (by (try simp only [World.size_alloc, World.size_drew]); omega)) | (with_reducible refine Bb.set ?_ rfl) | (with_reducible refine Bb.grown ?_ (by assumption) (by assumption))))
    have Yb : Hid (Bb w1 (w.heap.size + 1) 53 #[.int .i64 (n : Int), .slice B1 n d1, .slice B2 n d2]) := by show Bb _ _ _ _; (repeat' (first | (with_reducible assumption) | (refine Bb.new (by first | (with_reducible rfl) | (simp; done))) | (with_reducible refine Bb.alloc ?_ _) | (with_reducible refine Bb.drew ?_) | (with_reducible refine Bb.drewN ?_ _) | (with_reducible refine Bb.mono ?_ (by assumption)) | (with_reducible refine Bb.far ?_ (by (try simp only [World.size_alloc, World.size_drew]); omega)) | (with_reducible refine Bb.set ?_ rfl) | (with_reducible refine Bb.grown ?_ (by assumption) (by assumption))))
    (try clear Ra)
    (try clear Xa)
    have Xa := Ya
    clear Ya
    (try clear Rb)
    (try clear Xb)
    have Xb := Yb
    clear Yb
    have hB1 : Below w.heap.size w w1 := by (repeat' (first | (with_reducible exact Below.refl _ _) | (with_reducible assumption) | (with_reducible refine Below.alloc ?_ ?_ _) | (with_reducible refine Below.drew ?_) | (with_reducible refine bdN ?_ _) | (with_reducible refine Below.setCell ?_ ?_ _) | (with_reducible refine chn ?_ (by assumption) ?_) | omega | (simp; done) | (simp; omega)))
    clear hb1
    have ca0 := Xa.out.c 0 rfl
    have ca1 := Xa.out.c 1 rfl
    have ca2 := Xa.out.c 2 rfl
    have la := Xa.out.lt
    have cb0 := Xb.out.c 0 rfl
    have cb1 := Xb.out.c 1 rfl
    have cb2 := Xb.out.c 2 rfl
    have lb := Xb.out.lt
    go_wp2_with (fail)
    refine (psleq (t := t) (xs := zs) (ys := vs) HU.out ?_ ?_ hm hl hnl).mono ?_
    · exact HB.out.mono (by (repeat' (first | (with_reducible exact Below.refl _ _) | (with_reducible assumption) | (with_reducible refine Below.alloc ?_ ?_ _) | (with_reducible refine Below.drew ?_) | (with_reducible refine bdN ?_ _) | (with_reducible refine Below.setCell ?_ ?_ _) | (with_reducible refine chn ?_ (by assumption) ?_) | omega | (simp; done) | (simp; omega))))
    · exact HD.out.mono (by (repeat' (first | (with_reducible exact Below.refl _ _) | (with_reducible assumption) | (with_reducible refine Below.alloc ?_ ?_ _) | (with_reducible refine Below.drew ?_) | (with_reducible refine bdN ?_ _) | (with_reducible refine Below.setCell ?_ ?_ _) | (with_reducible refine chn ?_ (by assumption) ?_) | omega | (simp; done) | (simp; omega))))
    rintro ee w2 ⟨rfl, hb2⟩
    have hz2 := hb2.size
    (try simp only [World.size_alloc] at hz2)
    clear ca0 ca1 ca2 la cb0 cb1 cb2 lb
    have Ra := Xa.out
    have Rb := Xb.out
    have Ya : Hid (Bb w2 (w.heap.size) 53 #[.int .i64 (n : Int), .slice A1 n c1, .slice A2 n c2]) := by show Bb _ _ _ _; (repeat' (first | (with_reducible assumption) | (refine Bb.new (by first | (with_reducible rfl) | (simp; done))) | (with_reducible refine Bb.alloc ?_ _) | (with_reducible refine Bb.drew ?_) | (with_reducible refine Bb.drewN ?_ _) | (with_reducible refine Bb.mono ?_ (by assumption)) | (with_reducible refine Bb.far ?_ (by (try simp only [World.size_alloc, World.size_drew]); omega)) | (with_reducible refine Bb.set ?_ rfl) | (with_reducible refine Bb.grown ?_ (by assumption) (by assumption))))
    have Yb : Hid (Bb w2 (w.heap.size + 1) 53 #[.int .i64 (n : Int), .slice B1 n d1, .slice B2 n d2]) := by show Bb _ _ _ _; (repeat' (first | (with_reducible assumption) | (refine Bb.new (by first | (with_reducible rfl) | (simp; done))) | (with_reducible refine Bb.alloc ?_ _) | (with_reducible refine Bb.drew ?_) | (with_reducible refine Bb.drewN ?_ _) | (with_reducible refine Bb.mono ?_ (by assumption)) | (with_reducible refine Bb.far ?_ (by (try simp only [World.size_alloc, World.size_drew]); omega)) | (with_reducible refine Bb.set ?_ rfl) | (with_reducible refine Bb.grown ?_ (by assumption) (by assumption))))
    (try clear Ra)
    (try clear Xa)
    have Xa := Ya
    clear Ya
    (try clear Rb)
    (try clear Xb)
    have Xb := Yb
    clear Yb
    have hB2 : Below w.heap.size w w2 := by (repeat' (first | (with_reducible exact Below.refl _ _) | (with_reducible assumption) | (with_reducible refine Below.alloc ?_ ?_ _) | (with_reducible refine Below.drew ?_) | (with_reducible refine bdN ?_ _) | (with_reducible refine Below.setCell ?_ ?_ _) | (with_reducible refine chn ?_ (by assumption) ?_) | omega | (simp; done) | (simp; omega)))
    clear hb2
    have ca0 := Xa.out.c 0 rfl
    have ca1 := Xa.out.c 1 rfl
    have ca2 := Xa.out.c 2 rfl
    have la := Xa.out.lt
    have cb0 := Xb.out.c 0 rfl
    have cb1 := Xb.out.c 1 rfl
    have cb2 := Xb.out.c 2 rfl
    have lb := Xb.out.lt
    go_wp2_with (fail)
    refine bodyPost_ret (v := .bool t) (by first | (simp [results, Try.results103, go_sem, *]; done) | (simp (disch := (first | omega | (simp; done) | (simp; omega))) [results, Try.results103, go_sem, *]; done) | (simp only [results, Try.results103]; go_simp; done)) rfl ⟨rfl, ?_⟩
    (repeat' (first | (with_reducible exact Below.refl _ _) | (with_reducible assumption) | (with_reducible refine Below.alloc ?_ ?_ _) | (with_reducible refine Below.drew ?_) | (with_reducible refine bdN ?_ _) | (with_reducible refine Below.setCell ?_ ?_ _) | (with_reducible refine chn ?_ (by assumption) ?_) | omega | (simp; done) | (simp; omega)))
  · obtain rfl : t = false := boolF ht (fun h => hx h.1)
    have HX := lay hx
    clear ht hA hB hC hD hx HT
    go_enter Try.func103, Try.ntmps103
    go_wp2_with (fail)
    refine (psleq (t := false) (xs := xs) (ys := us) ⟨fun h => (by cases h), fun h => absurd h HX.out⟩ ?_ ?_ hn hk hnl).mono ?_
    · exact HA.out.mono (by (repeat' (first | (with_reducible exact Below.refl _ _) | (with_reducible assumption) | (with_reducible refine Below.alloc ?_ ?_ _) | (with_reducible refine Below.drew ?_) | (with_reducible refine bdN ?_ _) | (with_reducible refine Below.setCell ?_ ?_ _) | (with_reducible refine chn ?_ (by assumption) ?_) | omega | (simp; done) | (simp; omega))))
    · exact HC.out.mono (by (repeat' (first | (with_reducible exact Below.refl _ _) | (with_reducible assumption) | (with_reducible refine Below.alloc ?_ ?_ _) | (with_reducible refine Below.drew ?_) | (with_reducible refine bdN ?_ _) | (with_reducible refine Below.setCell ?_ ?_ _) | (with_reducible refine chn ?_ (by assumption) ?_) | omega | (simp; done) | (simp; omega))))
    rintro ee w1 ⟨rfl, hb1⟩
    have hz1 := hb1.size
    (try simp only [World.size_alloc] at hz1)
    have Ya : Hid (Bb w1 (w.heap.size) 53 #[.int .i64 (n : Int), .slice A1 n c1, .slice A2 n c2]) := by show Bb _ _ _ _; (repeat' (first | (with_reducible assumption) | (refine Bb.new (by first | (with_reducible rfl) | (simp; done))) | (with_reducible refine Bb.alloc ?_ _) | (with_reducible refine Bb.drew ?_) | (with_reducible refine Bb.drewN ?_ _) | (with_reducible refine Bb.mono ?_ (by assumption)) | (with_reducible refine Bb.far ?_ (by (try simp only [World.size_alloc, World.size_drew]); omega)) | (with_reducible refine Bb.set ?_ rfl) | (with_reducible refine Bb.grown ?_ (by assumption) (by assumption))))
    have Yb : Hid (Bb w1 (w.heap.size + 1) 53 #[.int .i64 (n : Int), .slice B1 n d1, .slice B2 n d2]) := by show Bb _ _ _ _; (repeat' (first | (with_reducible assumption) | (refine Bb.new (by first | (with_reducible rfl) | (simp; done))) | (with_reducible refine Bb.alloc ?_ _) | (with_reducible refine Bb.drew ?_) | (with_reducible refine Bb.drewN ?_ _) | (with_reducible refine Bb.mono ?_ (by assumption)) | (with_reducible refine Bb.far ?_ (by (try simp only [World.size_alloc, World.size_drew]); omega)) | (with_reducible refine Bb.set ?_ rfl) | (with_reducible refine Bb.grown ?_ (by assumption) (by assumption))))
    (try clear Ra)
    (try clear Xa)
    have Xa := Ya
    clear Ya
    (try clear Rb)
    (try clear Xb)
    have Xb := Yb
    clear Yb
    have hB1 : Below w.heap.size w w1 := by (repeat' (first | (with_reducible exact Below.refl _ _) | (with_reducible assumption) | (with_reducible refine Below.alloc ?_ ?_ _) | (with_reducible refine Below.drew ?_) | (with_reducible refine bdN ?_ _) | (with_reducible refine Below.setCell ?_ ?_ _) | (with_reducible refine chn ?_ (by assumption) ?_) | omega | (simp; done) | (simp; omega)))
    clear hb1
    have ca0 := Xa.out.c 0 rfl
    have ca1 := Xa.out.c 1 rfl
    have ca2 := Xa.out.c 2 rfl
    have la := Xa.out.lt
    have cb0 := Xb.out.c 0 rfl
    have cb1 := Xb.out.c 1 rfl
    have cb2 := Xb.out.c 2 rfl
    have lb := Xb.out.lt
    go_wp2_with (fail)
    refine bodyPost_ret (v := .bool false) (by first | (simp [results, Try.results103, go_sem, *]; done) | (simp (disch := (first | omega | (simp; done) | (simp; omega))) [results, Try.results103, go_sem, *]; done) | (simp only [results, Try.results103]; go_simp; done)) rfl ⟨rfl, ?_⟩
    (repeat' (first | (with_reducible exact Below.refl _ _) | (with_reducible assumption) | (with_reducible refine Below.alloc ?_ ?_ _) | (with_reducible refine Below.drew ?_) | (with_reducible refine bdN ?_ _) | (with_reducible refine Below.setCell ?_ ?_ _) | (with_reducible refine chn ?_ (by assumption) ?_) | omega | (simp; done) | (simp; omega)))

set_option maxRecDepth 100000 in
set_option maxHeartbeats 8000000 in
theorem l8same {n c1 c2 d1 d2 : Nat} {A1 A2 B1 B2 : Option Addr} {xs zs us vs : List PauliV} {t : Bool} {w : World} (q5 : n ≤ 5) (ht : t = true ↔ (xs = us ∧ zs = vs)) (hA : Rd pauliE w A1 xs) (hB : Rd pauliE w A2 zs) (hC : Rd pauliE w B1 us) (hD : Rd pauliE w B2 vs) (hn : xs.length = n) (hm : zs.length = n) (hk : us.length = n) (hl : vs.length = n) :
    Calls Try.prog 102 #[tableauV (n : Int) A1 n c1 A2 n c2, tableauV (n : Int) B1 n d1 B2 n d2] w fun ee w' => ee = .returned (.bool t) ∧ Below w.heap.size w w' := by
  have HT := lay ht
  have HA := lay hA
  have HB := lay hB
  have HC := lay hC
  have HD := lay hD
  have hnl : n ≤ 1048576 := by omega
  have HNxs := lay hn
  have HNzs := lay hm
  have HNus := lay hk
  have HNvs := lay hl
  clear ht hA hB hC hD
  go_enter Try.func102, Try.ntmps102
  go_wp2_with (fail)
  go_loopg [5] n (fun k s5 wr => ∃ j : Nat, j + k = n ∧ s5 = .int .i64 (j : Int) ∧ Hid (xs.take j = us.take j) ∧ Hid (zs.take j = vs.take j) ∧ Hid (Bb wr (w.heap.size) 53 #[.int .i64 (n : Int), .slice A1 n c1, .slice A2 n c2]) ∧ Hid (Bb wr (w.heap.size + 1) 53 #[.int .i64 (n : Int), .slice B1 n d1, .slice B2 n d2]) ∧ Below w.heap.size w wr)
  case atStart => exact ⟨0, by omega, rfl, rfl, rfl, (by show Bb _ _ _ _; (repeat' (first | (with_reducible assumption) | (refine Bb.new (by first | (with_reducible rfl) | (simp; done))) | (with_reducible refine Bb.alloc ?_ _) | (with_reducible refine Bb.drew ?_) | (with_reducible refine Bb.drewN ?_ _) | (with_reducible refine Bb.mono ?_ (by assumption)) | (with_reducible refine Bb.far ?_ (by (try simp only [World.size_alloc, World.size_drew]); omega)) | (with_reducible refine Bb.set ?_ rfl) | (with_reducible refine Bb.grown ?_ (by assumption) (by assumption))))), (by show Bb _ _ _ _; (repeat' (first | (with_reducible assumption) | (refine Bb.new (by first | (with_reducible rfl) | (simp; done))) | (with_reducible refine Bb.alloc ?_ _) | (with_reducible refine Bb.drew ?_) | (with_reducible refine Bb.drewN ?_ _) | (with_reducible refine Bb.mono ?_ (by assumption)) | (with_reducible refine Bb.far ?_ (by (try simp only [World.size_alloc, World.size_drew]); omega)) | (with_reducible refine Bb.set ?_ rfl) | (with_reducible refine Bb.grown ?_ (by assumption) (by assumption))))), by (repeat' (first | (with_reducible exact Below.refl _ _) | (with_reducible assumption) | (with_reducible refine Below.alloc ?_ ?_ _) | (with_reducible refine Below.drew ?_) | (with_reducible refine bdN ?_ _) | (with_reducible refine Below.setCell ?_ ?_ _) | (with_reducible refine chn ?_ (by assumption) ?_) | omega | (simp; done) | (simp; omega)))⟩
  case round =>
    obtain ⟨j, hj, rfl, HJ, HK, Xa, Xb, hB0⟩ := hrel
    have hBs := hB0.size
    have ca0 := Xa.out.c 0 rfl
    have ca1 := Xa.out.c 1 rfl
    have ca2 := Xa.out.c 2 rfl
    have la := Xa.out.lt
    have cb0 := Xb.out.c 0 rfl
    have cb1 := Xb.out.c 1 rfl
    have cb2 := Xb.out.c 2 rfl
    have lb := Xb.out.lt
    cases gk with
    | zero =>
      obtain rfl : n = j := by omega
      have HH : Hid (t = true) := boolT HT.out ⟨takEnd hn hk HJ.out, takEnd hm hl HK.out⟩
      go_wp2_with (fail)
      have he := HH.out
      subst he
      go_ret
      refine ⟨rfl, ?_⟩
      (repeat' (first | (with_reducible exact Below.refl _ _) | (with_reducible assumption) | (with_reducible refine Below.alloc ?_ ?_ _) | (with_reducible refine Below.drew ?_) | (with_reducible refine bdN ?_ _) | (with_reducible refine Below.setCell ?_ ?_ _) | (with_reducible refine chn ?_ (by assumption) ?_) | omega | (simp; done) | (simp; omega)))
    | succ m =>
      have hlt : j < n := by omega
      have jl : (j : Int) < (n : Int) := by omega
      obtain ⟨x, hx⟩ : ∃ x, xs[j]? = some x := ⟨_, List.getElem?_eq_getElem (by rw [HNxs.out]; exact hlt)⟩
      obtain ⟨gx, ox, rfl, hgx, hcx⟩ := HA.out.atPauli hx
      obtain ⟨x0, x1, x2⟩ := hcx
      have x0' : wr.cell? ⟨gx, ox + j * 3, none⟩ = some (.int .i64 x.f0) := (World.cell?_of_block (hB0.block _ hgx)).trans x0
      have x1' : wr.cell? ⟨gx, ox + j * 3 + 1, none⟩ = some (.int .i64 x.f1) := (World.cell?_of_block (hB0.block _ hgx)).trans x1
      have x2' : wr.cell? ⟨gx, ox + j * 3 + 2, none⟩ = some (.int .i64 x.f2) := (World.cell?_of_block (hB0.block _ hgx)).trans x2
      have Lx := lay hx
      clear hx x0 x1 x2
      obtain ⟨z, hz⟩ : ∃ z, zs[j]? = some z := ⟨_, List.getElem?_eq_getElem (by rw [HNzs.out]; exact hlt)⟩
      obtain ⟨gz, oz, rfl, hgz, hcz⟩ := HB.out.atPauli hz
      obtain ⟨z0, z1, z2⟩ := hcz
      have z0' : wr.cell? ⟨gz, oz + j * 3, none⟩ = some (.int .i64 z.f0) := (World.cell?_of_block (hB0.block _ hgz)).trans z0
      have z1' : wr.cell? ⟨gz, oz + j * 3 + 1, none⟩ = some (.int .i64 z.f1) := (World.cell?_of_block (hB0.block _ hgz)).trans z1
      have z2' : wr.cell? ⟨gz, oz + j * 3 + 2, none⟩ = some (.int .i64 z.f2) := (World.cell?_of_block (hB0.block _ hgz)).trans z2
      have Lz := lay hz
      clear hz z0 z1 z2
      obtain ⟨u, hu⟩ : ∃ u, us[j]? = some u := ⟨_, List.getElem?_eq_getElem (by rw [HNus.out]; exact hlt)⟩
      obtain ⟨gu, ou, rfl, hgu, hcu⟩ := HC.out.atPauli hu
      obtain ⟨u0, u1, u2⟩ := hcu
      have u0' : wr.cell? ⟨gu, ou + j * 3, none⟩ = some (.int .i64 u.f0) := (World.cell?_of_block (hB0.block _ hgu)).trans u0
      have u1' : wr.cell? ⟨gu, ou + j * 3 + 1, none⟩ = some (.int .i64 u.f1) := (World.cell?_of_block (hB0.block _ hgu)).trans u1
      have u2' : wr.cell? ⟨gu, ou + j * 3 + 2, none⟩ = some (.int .i64 u.f2) := (World.cell?_of_block (hB0.block _ hgu)).trans u2
      have Lu := lay hu
      clear hu u0 u1 u2
      obtain ⟨v, hv⟩ : ∃ v, vs[j]? = some v := ⟨_, List.getElem?_eq_getElem (by rw [HNvs.out]; exact hlt)⟩
      obtain ⟨gv, ov, rfl, hgv, hcv⟩ := HD.out.atPauli hv
      obtain ⟨v0, v1, v2⟩ := hcv
      have v0' : wr.cell? ⟨gv, ov + j * 3, none⟩ = some (.int .i64 v.f0) := (World.cell?_of_block (hB0.block _ hgv)).trans v0
      have v1' : wr.cell? ⟨gv, ov + j * 3 + 1, none⟩ = some (.int .i64 v.f1) := (World.cell?_of_block (hB0.block _ hgv)).trans v1
      have v2' : wr.cell? ⟨gv, ov + j * 3 + 2, none⟩ = some (.int .i64 v.f2) := (World.cell?_of_block (hB0.block _ hgv)).trans v2
      have Lv := lay hv
      clear hv v0 v1 v2
      by_cases hxu : x = u
      · subst hxu
        have op1 := neqPauli_s x
        by_cases h1 : z = v
        · subst h1
          have op2 := neqPauli_s z
          go_wp2_with (fail)
          go_quiet (fail)
          go_wp2_with (fail)
          go_roundg m
          case measure => omega
          case rel => exact ⟨j + 1, by omega, by go_num, takEq Lx.out Lu.out HJ.out, takEq Lz.out Lv.out HK.out, Xa, Xb, by (repeat' (first | (with_reducible exact Below.refl _ _) | (with_reducible assumption) | (with_reducible refine Below.alloc ?_ ?_ _) | (with_reducible refine Below.drew ?_) | (with_reducible refine bdN ?_ _) | (with_reducible refine Below.setCell ?_ ?_ _) | (with_reducible refine chn ?_ (by assumption) ?_) | omega | (simp; done) | (simp; omega)))⟩
        · have op2 := neqPauli_d h1
          have HH : Hid (t = false) := boolF HT.out (fun h => takNe Lz.out Lv.out h1 h.2)
          clear h1
          go_wp2_with (fail)
          go_quiet (fail)
          go_wp2_with (fail)
          have he := HH.out
          subst he
          go_ret
          refine ⟨rfl, ?_⟩
          (repeat' (first | (with_reducible exact Below.refl _ _) | (with_reducible assumption) | (with_reducible refine Below.alloc ?_ ?_ _) | (with_reducible refine Below.drew ?_) | (with_reducible refine bdN ?_ _) | (with_reducible refine Below.setCell ?_ ?_ _) | (with_reducible refine chn ?_ (by assumption) ?_) | omega | (simp; done) | (simp; omega)))
      · have h1 := hxu
        have op1 := neqPauli_d h1
        clear hxu
        have HH : Hid (t = false) := boolF HT.out (fun h => takNe Lx.out Lu.out h1 h.1)
        clear h1
        go_wp2_with (fail)
        go_quiet (fail)
        go_wp2_with (fail)
        have he := HH.out
        subst he
        go_ret
        refine ⟨rfl, ?_⟩
        (repeat' (first | (with_reducible exact Below.refl _ _) | (with_reducible assumption) | (with_reducible refine Below.alloc ?_ ?_ _) | (with_reducible refine Below.drew ?_) | (with_reducible refine bdN ?_ _) | (with_reducible refine Below.setCell ?_ ?_ _) | (with_reducible refine chn ?_ (by assumption) ?_) | omega | (simp; done) | (simp; omega)))

end Go.Proofs.Ytjedpeoafpljhaa.C4
