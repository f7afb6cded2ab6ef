/- ImageOf. -/
import Derived.Test.YtgcligmpdlffoaaPimi
import Derived.Test.YtgcligmpdlffoaaPims
import Derived.Test.YtgcligmpdlffoaaPtva
namespace Go.Proofs.Ytgcligmpdlffoaa.C4
open Go.RowKit
set_option linter.unusedVariables false
set_option linter.unusedSimpArgs false
attribute [local irreducible] World.setCell

theorem TOk_L {n : Nat} {xs zs : List PauliV} (h : okU n (xs ++ zs) (n + n)) (hn : xs.length = n) (hm : zs.length = n) : okL n xs ∧ okL n zs := by
  refine ⟨⟨hn, fun k x hx => ?_⟩, hm, fun k x hx => ?_⟩
  · have hk := (List.getElem?_eq_some_iff.1 hx).1
    exact (h k x (by omega) (by rw [List.getElem?_append_left hk]; exact hx)).1
  · have hk := (List.getElem?_eq_some_iff.1 hx).1
    exact (h (n + k) x (by omega) (by rw [List.getElem?_append_right (by omega), hn, Nat.add_sub_cancel_left]; exact hx)).1
set_option maxRecDepth 100000 in
set_option maxHeartbeats 4000000 in
theorem im_i_f {a0 : Int} {g h n1 n2 c1 c2 : Nat} {xs zs : List PauliV} {x : PauliV} {t : Bool} {w : World} (ht : t = true ↔ TOk a0 n1 n2 xs zs) (hf : (t && pB a0 x) = false) (hA : Rd pauliE w (some ⟨g, 0, none⟩) xs) (hB : Rd pauliE w (some ⟨h, 0, none⟩) zs) (hn : xs.length = n1) (hm : zs.length = n2) (hb1 : n1 ≤ maxLen) (hb2 : n2 ≤ maxLen) :
    Calls Try.prog 52 #[tableauV a0 (some ⟨g, 0, none⟩) n1 c1 (some ⟨h, 0, none⟩) n2 c2, x.v] w fun ee w' => ee = .returned (.tuple #[PauliV.z.v, .bool false]) ∧ Below w.heap.size w w' := by
  have HA := lay hA
  have HB := lay hB
  cases t
  · have HT : Hid (¬ TOk a0 n1 n2 xs zs) := fun h => by cases (ht.2 h)
    clear hA hB ht hf
    go_enter Try.func52, Try.ntmps52
    go_wp2_with (fail)
    refine (ivt_i (t := false) (xs := xs) (zs := zs) ⟨fun h => (by cases h), fun h => absurd h HT.out⟩ ?_ ?_ hn hm hb1 hb2).mono ?_
    · exact HA.out.mono (by (repeat' (first | (with_reducible exact Below.refl _ _) | (with_reducible assumption) | (with_reducible refine Below.alloc ?_ ?_ _) | (with_reducible refine Below.drew ?_) | (with_reducible refine bdN ?_ _) | (with_reducible refine Below.setCell ?_ ?_ _) | (with_reducible refine chn ?_ (by assumption) ?_) | omega | (simp; done) | (simp; omega))))
    · exact HB.out.mono (by (repeat' (first | (with_reducible exact Below.refl _ _) | (with_reducible assumption) | (with_reducible refine Below.alloc ?_ ?_ _) | (with_reducible refine Below.drew ?_) | (with_reducible refine bdN ?_ _) | (with_reducible refine Below.setCell ?_ ?_ _) | (with_reducible refine chn ?_ (by assumption) ?_) | omega | (simp; done) | (simp; omega))))
    rintro ee w1 ⟨rfl, hb1⟩
    have hz1 := hb1.size
    (try simp only [World.size_alloc] at hz1)
    have Yt : Hid (Bb w1 (w.heap.size) 67 #[.int .i64 a0, .slice (some ⟨g, 0, none⟩) n1 c1, .slice (some ⟨h, 0, none⟩) n2 c2]) := by show Bb _ _ _ _; (repeat' (first | (with_reducible assumption) | (refine Bb.new (by first | (with_reducible rfl) | (simp; done))) | (with_reducible refine Bb.alloc ?_ _) | (with_reducible refine Bb.drew ?_) | (with_reducible refine Bb.drewN ?_ _) | (with_reducible refine Bb.mono ?_ (by assumption)) | (with_reducible refine Bb.far ?_ (by (try simp only [World.size_alloc, World.size_drew]); omega)) | (with_reducible refine Bb.set ?_ rfl) | (with_reducible refine Bb.grown ?_ (by assumption) (by assumption))))
    have Yp : Hid (Bb w1 (w.heap.size + 1) 45 #[.int .i64 x.f0, .int .i64 x.f1, .int .i64 x.f2]) := by show Bb _ _ _ _; (repeat' (first | (with_reducible assumption) | (refine Bb.new (by first | (with_reducible rfl) | (simp; done))) | (with_reducible refine Bb.alloc ?_ _) | (with_reducible refine Bb.drew ?_) | (with_reducible refine Bb.drewN ?_ _) | (with_reducible refine Bb.mono ?_ (by assumption)) | (with_reducible refine Bb.far ?_ (by (try simp only [World.size_alloc, World.size_drew]); omega)) | (with_reducible refine Bb.set ?_ rfl) | (with_reducible refine Bb.grown ?_ (by assumption) (by assumption))))
    have Yz : Hid (Bb w1 (w.heap.size + 1 + 1) 45 #[.int .i64 0, .int .i64 0, .int .i64 0]) := by show Bb _ _ _ _; (repeat' (first | (with_reducible assumption) | (refine Bb.new (by first | (with_reducible rfl) | (simp; done))) | (with_reducible refine Bb.alloc ?_ _) | (with_reducible refine Bb.drew ?_) | (with_reducible refine Bb.drewN ?_ _) | (with_reducible refine Bb.mono ?_ (by assumption)) | (with_reducible refine Bb.far ?_ (by (try simp only [World.size_alloc, World.size_drew]); omega)) | (with_reducible refine Bb.set ?_ rfl) | (with_reducible refine Bb.grown ?_ (by assumption) (by assumption))))
    (try clear Rt)
    (try clear Xt)
    have Xt := Yt
    clear Yt
    (try clear Rp)
    (try clear Xp)
    have Xp := Yp
    clear Yp
    (try clear Rz)
    (try clear Xz)
    have Xz := Yz
    clear Yz
    have hB1 : Below w.heap.size w w1 := by (repeat' (first | (with_reducible exact Below.refl _ _) | (with_reducible assumption) | (with_reducible refine Below.alloc ?_ ?_ _) | (with_reducible refine Below.drew ?_) | (with_reducible refine bdN ?_ _) | (with_reducible refine Below.setCell ?_ ?_ _) | (with_reducible refine chn ?_ (by assumption) ?_) | omega | (simp; done) | (simp; omega)))
    clear hb1
    have ct0 := Xt.out.c 0 rfl
    have ct1 := Xt.out.c 1 rfl
    have ct2 := Xt.out.c 2 rfl
    have lt := Xt.out.lt
    have cp0 := Xp.out.c 0 rfl
    have cp1 := Xp.out.c 1 rfl
    have cp2 := Xp.out.c 2 rfl
    have lp := Xp.out.lt
    have cz0 := Xz.out.c 0 rfl
    have cz1 := Xz.out.c 1 rfl
    have cz2 := Xz.out.c 2 rfl
    have lz := Xz.out.lt
    have fz := Xz.out.f
    go_wp2_with (fail)
    refine bodyPost_ret (v := .tuple #[.agg #[.int .i64 0, .int .i64 0, .int .i64 0], .bool false]) (by first | (simp [results, Try.results52, go_sem, *]; done) | (simp (disch := (first | omega | (simp; done) | (simp; omega))) [results, Try.results52, go_sem, *]; done) | (simp only [results, Try.results52]; go_simp; done)) rfl ⟨rfl, ?_⟩
    (repeat' (first | (with_reducible exact Below.refl _ _) | (with_reducible assumption) | (with_reducible refine Below.alloc ?_ ?_ _) | (with_reducible refine Below.drew ?_) | (with_reducible refine bdN ?_ _) | (with_reducible refine Below.setCell ?_ ?_ _) | (with_reducible refine chn ?_ (by assumption) ?_) | omega | (simp; done) | (simp; omega)))
  · have HT : Hid (TOk a0 n1 n2 xs zs) := ht.1 rfl
    have HX : Hid (pB a0 x = false) := by show pB a0 x = false; simpa using hf
    clear hA hB ht hf
    go_enter Try.func52, Try.ntmps52
    go_wp2_with (fail)
    refine (ivt_i (t := true) (xs := xs) (zs := zs) ⟨fun _ => HT.out, fun _ => rfl⟩ ?_ ?_ hn hm hb1 hb2).mono ?_
    · exact HA.out.mono (by (repeat' (first | (with_reducible exact Below.refl _ _) | (with_reducible assumption) | (with_reducible refine Below.alloc ?_ ?_ _) | (with_reducible refine Below.drew ?_) | (with_reducible refine bdN ?_ _) | (with_reducible refine Below.setCell ?_ ?_ _) | (with_reducible refine chn ?_ (by assumption) ?_) | omega | (simp; done) | (simp; omega))))
    · exact HB.out.mono (by (repeat' (first | (with_reducible exact Below.refl _ _) | (with_reducible assumption) | (with_reducible refine Below.alloc ?_ ?_ _) | (with_reducible refine Below.drew ?_) | (with_reducible refine bdN ?_ _) | (with_reducible refine Below.setCell ?_ ?_ _) | (with_reducible refine chn ?_ (by assumption) ?_) | omega | (simp; done) | (simp; omega))))
    rintro ee w1 ⟨rfl, hb1⟩
    have hz1 := hb1.size
    (try simp only [World.size_alloc] at hz1)
    have Yt : Hid (Bb w1 (w.heap.size) 67 #[.int .i64 a0, .slice (some ⟨g, 0, none⟩) n1 c1, .slice (some ⟨h, 0, none⟩) n2 c2]) := by show Bb _ _ _ _; (repeat' (first | (with_reducible assumption) | (refine Bb.new (by first | (with_reducible rfl) | (simp; done))) | (with_reducible refine Bb.alloc ?_ _) | (with_reducible refine Bb.drew ?_) | (with_reducible refine Bb.drewN ?_ _) | (with_reducible refine Bb.mono ?_ (by assumption)) | (with_reducible refine Bb.far ?_ (by (try simp only [World.size_alloc, World.size_drew]); omega)) | (with_reducible refine Bb.set ?_ rfl) | (with_reducible refine Bb.grown ?_ (by assumption) (by assumption))))
    have Yp : Hid (Bb w1 (w.heap.size + 1) 45 #[.int .i64 x.f0, .int .i64 x.f1, .int .i64 x.f2]) := by show Bb _ _ _ _; (repeat' (first | (with_reducible assumption) | (refine Bb.new (by first | (with_reducible rfl) | (simp; done))) | (with_reducible refine Bb.alloc ?_ _) | (with_reducible refine Bb.drew ?_) | (with_reducible refine Bb.drewN ?_ _) | (with_reducible refine Bb.mono ?_ (by assumption)) | (with_reducible refine Bb.far ?_ (by (try simp only [World.size_alloc, World.size_drew]); omega)) | (with_reducible refine Bb.set ?_ rfl) | (with_reducible refine Bb.grown ?_ (by assumption) (by assumption))))
    have Yz : Hid (Bb w1 (w.heap.size + 1 + 1) 45 #[.int .i64 0, .int .i64 0, .int .i64 0]) := by show Bb _ _ _ _; (repeat' (first | (with_reducible assumption) | (refine Bb.new (by first | (with_reducible rfl) | (simp; done))) | (with_reducible refine Bb.alloc ?_ _) | (with_reducible refine Bb.drew ?_) | (with_reducible refine Bb.drewN ?_ _) | (with_reducible refine Bb.mono ?_ (by assumption)) | (with_reducible refine Bb.far ?_ (by (try simp only [World.size_alloc, World.size_drew]); omega)) | (with_reducible refine Bb.set ?_ rfl) | (with_reducible refine Bb.grown ?_ (by assumption) (by assumption))))
    (try clear Rt)
    (try clear Xt)
    have Xt := Yt
    clear Yt
    (try clear Rp)
    (try clear Xp)
    have Xp := Yp
    clear Yp
    (try clear Rz)
    (try clear Xz)
    have Xz := Yz
    clear Yz
    have hB1 : Below w.heap.size w w1 := by (repeat' (first | (with_reducible exact Below.refl _ _) | (with_reducible assumption) | (with_reducible refine Below.alloc ?_ ?_ _) | (with_reducible refine Below.drew ?_) | (with_reducible refine bdN ?_ _) | (with_reducible refine Below.setCell ?_ ?_ _) | (with_reducible refine chn ?_ (by assumption) ?_) | omega | (simp; done) | (simp; omega)))
    clear hb1
    have ct0 := Xt.out.c 0 rfl
    have ct1 := Xt.out.c 1 rfl
    have ct2 := Xt.out.c 2 rfl
    have lt := Xt.out.lt
    have cp0 := Xp.out.c 0 rfl
    have cp1 := Xp.out.c 1 rfl
    have cp2 := Xp.out.c 2 rfl
    have lp := Xp.out.lt
    have cz0 := Xz.out.c 0 rfl
    have cz1 := Xz.out.c 1 rfl
    have cz2 := Xz.out.c 2 rfl
    have lz := Xz.out.lt
    have fz := Xz.out.f
    go_wp2_with (fail)
    refine (ivp (x := x) HX.out _).mono ?_
    rintro ee w2 ⟨rfl, hb2⟩
    have hz2 := hb2.size
    (try simp only [World.size_alloc] at hz2)
    clear ct0 ct1 ct2 lt cp0 cp1 cp2 lp cz0 cz1 cz2 lz fz
    have Rt := Xt.out
    have Rp := Xp.out
    have Rz := Xz.out
    have Yt : Hid (Bb w2 (w.heap.size) 67 #[.int .i64 a0, .slice (some ⟨g, 0, none⟩) n1 c1, .slice (some ⟨h, 0, none⟩) n2 c2]) := by show Bb _ _ _ _; (repeat' (first | (with_reducible assumption) | (refine Bb.new (by first | (with_reducible rfl) | (simp; done))) | (with_reducible refine Bb.alloc ?_ _) | (with_reducible refine Bb.drew ?_) | (with_reducible refine Bb.drewN ?_ _) | (with_reducible refine Bb.mono ?_ (by assumption)) | (with_reducible refine Bb.far ?_ (by (try simp only [World.size_alloc, World.size_drew]); omega)) | (with_reducible refine Bb.set ?_ rfl) | (with_reducible refine Bb.grown ?_ (by assumption) (by assumption))))
    have Yp : Hid (Bb w2 (w.heap.size + 1) 45 #[.int .i64 x.f0, .int .i64 x.f1, .int .i64 x.f2]) := by show Bb _ _ _ _; (repeat' (first | (with_reducible assumption) | (refine Bb.new (by first | (with_reducible rfl) | (simp; done))) | (with_reducible refine Bb.alloc ?_ _) | (with_reducible refine Bb.drew ?_) | (with_reducible refine Bb.drewN ?_ _) | (with_reducible refine Bb.mono ?_ (by assumption)) | (with_reducible refine Bb.far ?_ (by (try simp only [World.size_alloc, World.size_drew]); omega)) | (with_reducible refine Bb.set ?_ rfl) | (with_reducible refine Bb.grown ?_ (by assumption) (by assumption))))
    have Yz : Hid (Bb w2 (w.heap.size + 1 + 1) 45 #[.int .i64 0, .int .i64 0, .int .i64 0]) := by show Bb _ _ _ _; (repeat' (first | (with_reducible assumption) | (refine Bb.new (by first | (with_reducible rfl) | (simp; done))) | (with_reducible refine Bb.alloc ?_ _) | (with_reducible refine Bb.drew ?_) | (with_reducible refine Bb.drewN ?_ _) | (with_reducible refine Bb.mono ?_ (by assumption)) | (with_reducible refine Bb.far ?_ (by (try simp only [World.size_alloc, World.size_drew]); omega)) | (with_reducible refine Bb.set ?_ rfl) | (with_reducible refine Bb.grown ?_ (by assumption) (by assumption))))
    (try clear Rt)
    (try clear Xt)
    have Xt := Yt
    clear Yt
    (try clear Rp)
    (try clear Xp)
    have Xp := Yp
    clear Yp
    (try clear Rz)
    (try clear Xz)
    have Xz := Yz
    clear Yz
    have hB2 : Below w.heap.size w w2 := by (repeat' (first | (with_reducible exact Below.refl _ _) | (with_reducible assumption) | (with_reducible refine Below.alloc ?_ ?_ _) | (with_reducible refine Below.drew ?_) | (with_reducible refine bdN ?_ _) | (with_reducible refine Below.setCell ?_ ?_ _) | (with_reducible refine chn ?_ (by assumption) ?_) | omega | (simp; done) | (simp; omega)))
    clear hb2
    have ct0 := Xt.out.c 0 rfl
    have ct1 := Xt.out.c 1 rfl
    have ct2 := Xt.out.c 2 rfl
    have lt := Xt.out.lt
    have cp0 := Xp.out.c 0 rfl
    have cp1 := Xp.out.c 1 rfl
    have cp2 := Xp.out.c 2 rfl
    have lp := Xp.out.lt
    have cz0 := Xz.out.c 0 rfl
    have cz1 := Xz.out.c 1 rfl
    have cz2 := Xz.out.c 2 rfl
    have lz := Xz.out.lt
    have fz := Xz.out.f
    go_wp2_with (fail)
    refine bodyPost_ret (v := .tuple #[.agg #[.int .i64 0, .int .i64 0, .int .i64 0], .bool false]) (by first | (simp [results, Try.results52, go_sem, *]; done) | (simp (disch := (first | omega | (simp; done) | (simp; omega))) [results, Try.results52, go_sem, *]; done) | (simp only [results, Try.results52]; go_simp; done)) rfl ⟨rfl, ?_⟩
    (repeat' (first | (with_reducible exact Below.refl _ _) | (with_reducible assumption) | (with_reducible refine Below.alloc ?_ ?_ _) | (with_reducible refine Below.drew ?_) | (with_reducible refine bdN ?_ _) | (with_reducible refine Below.setCell ?_ ?_ _) | (with_reducible refine chn ?_ (by assumption) ?_) | omega | (simp; done) | (simp; omega)))

set_option maxRecDepth 100000 in
set_option maxHeartbeats 4000000 in
theorem im_s_f {a0 : Int} {g h n1 n2 c1 c2 : Nat} {xs zs : List PauliV} {x : PauliV} {t : Bool} {w : World} (ht : t = true ↔ TOk a0 n1 n2 xs zs) (hf : (t && pB a0 x) = false) (hA : Rd pauliE w (some ⟨g, 0, none⟩) xs) (hB : Rd pauliE w (some ⟨h, 0, none⟩) zs) (hn : xs.length = n1) (hm : zs.length = n2) (hb1 : n1 ≤ maxLen) (hb2 : n2 ≤ maxLen) :
    Calls Try.prog 51 #[tableauV a0 (some ⟨g, 0, none⟩) n1 c1 (some ⟨h, 0, none⟩) n2 c2, x.v] w fun ee w' => ee = .returned (.tuple #[PauliV.z.v, .bool false]) ∧ Below w.heap.size w w' := by
  have HA := lay hA
  have HB := lay hB
  cases t
  · have HT : Hid (¬ TOk a0 n1 n2 xs zs) := fun h => by cases (ht.2 h)
    clear hA hB ht hf
    go_enter Try.func51, Try.ntmps51
    go_wp2_with (fail)
    refine (gvs (t := false) (xs := xs) (zs := zs) ⟨fun h => (by cases h), fun h => absurd h HT.out⟩ ?_ ?_ hn hm hb1 hb2).mono ?_
    · exact HA.out.mono (by (repeat' (first | (with_reducible exact Below.refl _ _) | (with_reducible assumption) | (with_reducible refine Below.alloc ?_ ?_ _) | (with_reducible refine Below.drew ?_) | (with_reducible refine bdN ?_ _) | (with_reducible refine Below.setCell ?_ ?_ _) | (with_reducible refine chn ?_ (by assumption) ?_) | omega | (simp; done) | (simp; omega))))
    · exact HB.out.mono (by (repeat' (first | (with_reducible exact Below.refl _ _) | (with_reducible assumption) | (with_reducible refine Below.alloc ?_ ?_ _) | (with_reducible refine Below.drew ?_) | (with_reducible refine bdN ?_ _) | (with_reducible refine Below.setCell ?_ ?_ _) | (with_reducible refine chn ?_ (by assumption) ?_) | omega | (simp; done) | (simp; omega))))
    rintro ee w1 ⟨rfl, hb1⟩
    have hz1 := hb1.size
    (try simp only [World.size_alloc] at hz1)
    have Yt : Hid (Bb w1 (w.heap.size) 67 #[.int .i64 a0, .slice (some ⟨g, 0, none⟩) n1 c1, .slice (some ⟨h, 0, none⟩) n2 c2]) := by show Bb _ _ _ _; (repeat' (first | (with_reducible assumption) | (refine Bb.new (by first | (with_reducible rfl) | (simp; done))) | (with_reducible refine Bb.alloc ?_ _) | (with_reducible refine Bb.drew ?_) | (with_reducible refine Bb.drewN ?_ _) | (with_reducible refine Bb.mono ?_ (by assumption)) | (with_reducible refine Bb.far ?_ (by (try simp only [World.size_alloc, World.size_drew]); omega)) | (with_reducible refine Bb.set ?_ rfl) | (with_reducible refine Bb.grown ?_ (by assumption) (by assumption))))
    have Yp : Hid (Bb w1 (w.heap.size + 1) 45 #[.int .i64 x.f0, .int .i64 x.f1, .int .i64 x.f2]) := by show Bb _ _ _ _; (repeat' (first | (with_reducible assumption) | (refine Bb.new (by first | (with_reducible rfl) | (simp; done))) | (with_reducible refine Bb.alloc ?_ _) | (with_reducible refine Bb.drew ?_) | (with_reducible refine Bb.drewN ?_ _) | (with_reducible refine Bb.mono ?_ (by assumption)) | (with_reducible refine Bb.far ?_ (by (try simp only [World.size_alloc, World.size_drew]); omega)) | (with_reducible refine Bb.set ?_ rfl) | (with_reducible refine Bb.grown ?_ (by assumption) (by assumption))))
    have Yz : Hid (Bb w1 (w.heap.size + 1 + 1) 45 #[.int .i64 0, .int .i64 0, .int .i64 0]) := by show Bb _ _ _ _; (repeat' (first | (with_reducible assumption) | (refine Bb.new (by first | (with_reducible rfl) | (simp; done))) | (with_reducible refine Bb.alloc ?_ _) | (with_reducible refine Bb.drew ?_) | (with_reducible refine Bb.drewN ?_ _) | (with_reducible refine Bb.mono ?_ (by assumption)) | (with_reducible refine Bb.far ?_ (by (try simp only [World.size_alloc, World.size_drew]); omega)) | (with_reducible refine Bb.set ?_ rfl) | (with_reducible refine Bb.grown ?_ (by assumption) (by assumption))))
    (try clear Rt)
    (try clear Xt)
    have Xt := Yt
    clear Yt
    (try clear Rp)
    (try clear Xp)
    have Xp := Yp
    clear Yp
    (try clear Rz)
    (try clear Xz)
    have Xz := Yz
    clear Yz
    have hB1 : Below w.heap.size w w1 := by (repeat' (first | (with_reducible exact Below.refl _ _) | (with_reducible assumption) | (with_reducible refine Below.alloc ?_ ?_ _) | (with_reducible refine Below.drew ?_) | (with_reducible refine bdN ?_ _) | (with_reducible refine Below.setCell ?_ ?_ _) | (with_reducible refine chn ?_ (by assumption) ?_) | omega | (simp; done) | (simp; omega)))
    clear hb1
    have ct0 := Xt.out.c 0 rfl
    have ct1 := Xt.out.c 1 rfl
    have ct2 := Xt.out.c 2 rfl
    have lt := Xt.out.lt
    have cp0 := Xp.out.c 0 rfl
    have cp1 := Xp.out.c 1 rfl
    have cp2 := Xp.out.c 2 rfl
    have lp := Xp.out.lt
    have cz0 := Xz.out.c 0 rfl
    have cz1 := Xz.out.c 1 rfl
    have cz2 := Xz.out.c 2 rfl
    have lz := Xz.out.lt
    have fz := Xz.out.f
    go_wp2_with (fail)
    refine bodyPost_ret (v := .tuple #[.agg #[.int .i64 0, .int .i64 0, .int .i64 0], .bool false]) (by first | (simp [results, Try.results51, go_sem, *]; done) | (simp (disch := (first | omega | (simp; done) | (simp; omega))) [results, Try.results51, go_sem, *]; done) | (simp only [results, Try.results51]; go_simp; done)) rfl ⟨rfl, ?_⟩
    (repeat' (first | (with_reducible exact Below.refl _ _) | (with_reducible assumption) | (with_reducible refine Below.alloc ?_ ?_ _) | (with_reducible refine Below.drew ?_) | (with_reducible refine bdN ?_ _) | (with_reducible refine Below.setCell ?_ ?_ _) | (with_reducible refine chn ?_ (by assumption) ?_) | omega | (simp; done) | (simp; omega)))
  · have HT : Hid (TOk a0 n1 n2 xs zs) := ht.1 rfl
    have HX : Hid (pB a0 x = false) := by show pB a0 x = false; simpa using hf
    clear hA hB ht hf
    go_enter Try.func51, Try.ntmps51
    go_wp2_with (fail)
    refine (gvs (t := true) (xs := xs) (zs := zs) ⟨fun _ => HT.out, fun _ => rfl⟩ ?_ ?_ hn hm hb1 hb2).mono ?_
    · exact HA.out.mono (by (repeat' (first | (with_reducible exact Below.refl _ _) | (with_reducible assumption) | (with_reducible refine Below.alloc ?_ ?_ _) | (with_reducible refine Below.drew ?_) | (with_reducible refine bdN ?_ _) | (with_reducible refine Below.setCell ?_ ?_ _) | (with_reducible refine chn ?_ (by assumption) ?_) | omega | (simp; done) | (simp; omega))))
    · exact HB.out.mono (by (repeat' (first | (with_reducible exact Below.refl _ _) | (with_reducible assumption) | (with_reducible refine Below.alloc ?_ ?_ _) | (with_reducible refine Below.drew ?_) | (with_reducible refine bdN ?_ _) | (with_reducible refine Below.setCell ?_ ?_ _) | (with_reducible refine chn ?_ (by assumption) ?_) | omega | (simp; done) | (simp; omega))))
    rintro ee w1 ⟨rfl, hb1⟩
    have hz1 := hb1.size
    (try simp only [World.size_alloc] at hz1)
    have Yt : Hid (Bb w1 (w.heap.size) 67 #[.int .i64 a0, .slice (some ⟨g, 0, none⟩) n1 c1, .slice (some ⟨h, 0, none⟩) n2 c2]) := by show Bb _ _ _ _; (repeat' (first | (with_reducible assumption) | (refine Bb.new (by first | (with_reducible rfl) | (simp; done))) | (with_reducible refine Bb.alloc ?_ _) | (with_reducible refine Bb.drew ?_) | (with_reducible refine Bb.drewN ?_ _) | (with_reducible refine Bb.mono ?_ (by assumption)) | (with_reducible refine Bb.far ?_ (by (try simp only [World.size_alloc, World.size_drew]); omega)) | (with_reducible refine Bb.set ?_ rfl) | (with_reducible refine Bb.grown ?_ (by assumption) (by assumption))))
    have Yp : Hid (Bb w1 (w.heap.size + 1) 45 #[.int .i64 x.f0, .int .i64 x.f1, .int .i64 x.f2]) := by show Bb _ _ _ _; (repeat' (first | (with_reducible assumption) | (refine Bb.new (by first | (with_reducible rfl) | (simp; done))) | (with_reducible refine Bb.alloc ?_ _) | (with_reducible refine Bb.drew ?_) | (with_reducible refine Bb.drewN ?_ _) | (with_reducible refine Bb.mono ?_ (by assumption)) | (with_reducible refine Bb.far ?_ (by (try simp only [World.size_alloc, World.size_drew]); omega)) | (with_reducible refine Bb.set ?_ rfl) | (with_reducible refine Bb.grown ?_ (by assumption) (by assumption))))
    have Yz : Hid (Bb w1 (w.heap.size + 1 + 1) 45 #[.int .i64 0, .int .i64 0, .int .i64 0]) := by show Bb _ _ _ _; (repeat' (first | (with_reducible assumption) | (refine Bb.new (by first | (with_reducible rfl) | (simp; done))) | (with_reducible refine Bb.alloc ?_ _) | (with_reducible refine Bb.drew ?_) | (with_reducible refine Bb.drewN ?_ _) | (with_reducible refine Bb.mono ?_ (by assumption)) | (with_reducible refine Bb.far ?_ (by (try simp only [World.size_alloc, World.size_drew]); omega)) | (with_reducible refine Bb.set ?_ rfl) | (with_reducible refine Bb.grown ?_ (by assumption) (by assumption))))
    (try clear Rt)
    (try clear Xt)
    have Xt := Yt
    clear Yt
    (try clear Rp)
    (try clear Xp)
    have Xp := Yp
    clear Yp
    (try clear Rz)
    (try clear Xz)
    have Xz := Yz
    clear Yz
    have hB1 : Below w.heap.size w w1 := by (repeat' (first | (with_reducible exact Below.refl _ _) | (with_reducible assumption) | (with_reducible refine Below.alloc ?_ ?_ _) | (with_reducible refine Below.drew ?_) | (with_reducible refine bdN ?_ _) | (with_reducible refine Below.setCell ?_ ?_ _) | (with_reducible refine chn ?_ (by assumption) ?_) | omega | (simp; done) | (simp; omega)))
    clear hb1
    have ct0 := Xt.out.c 0 rfl
    have ct1 := Xt.out.c 1 rfl
    have ct2 := Xt.out.c 2 rfl
    have lt := Xt.out.lt
    have cp0 := Xp.out.c 0 rfl
    have cp1 := Xp.out.c 1 rfl
    have cp2 := Xp.out.c 2 rfl
    have lp := Xp.out.lt
    have cz0 := Xz.out.c 0 rfl
    have cz1 := Xz.out.c 1 rfl
    have cz2 := Xz.out.c 2 rfl
    have lz := Xz.out.lt
    have fz := Xz.out.f
    go_wp2_with (fail)
    refine (l7v (x := x) HX.out _).mono ?_
    rintro ee w2 ⟨rfl, hb2⟩
    have hz2 := hb2.size
    (try simp only [World.size_alloc] at hz2)
    clear ct0 ct1 ct2 lt cp0 cp1 cp2 lp cz0 cz1 cz2 lz fz
    have Rt := Xt.out
    have Rp := Xp.out
    have Rz := Xz.out
    have Yt : Hid (Bb w2 (w.heap.size) 67 #[.int .i64 a0, .slice (some ⟨g, 0, none⟩) n1 c1, .slice (some ⟨h, 0, none⟩) n2 c2]) := by show Bb _ _ _ _; (repeat' (first | (with_reducible assumption) | (refine Bb.new (by first | (with_reducible rfl) | (simp; done))) | (with_reducible refine Bb.alloc ?_ _) | (with_reducible refine Bb.drew ?_) | (with_reducible refine Bb.drewN ?_ _) | (with_reducible refine Bb.mono ?_ (by assumption)) | (with_reducible refine Bb.far ?_ (by (try simp only [World.size_alloc, World.size_drew]); omega)) | (with_reducible refine Bb.set ?_ rfl) | (with_reducible refine Bb.grown ?_ (by assumption) (by assumption))))
    have Yp : Hid (Bb w2 (w.heap.size + 1) 45 #[.int .i64 x.f0, .int .i64 x.f1, .int .i64 x.f2]) := by show Bb _ _ _ _; (repeat' (first | (with_reducible assumption) | (refine Bb.new (by first | (with_reducible rfl) | (simp; done))) | (with_reducible refine Bb.alloc ?_ _) | (with_reducible refine Bb.drew ?_) | (with_reducible refine Bb.drewN ?_ _) | (with_reducible refine Bb.mono ?_ (by assumption)) | (with_reducible refine Bb.far ?_ (by (try simp only [World.size_alloc, World.size_drew]); omega)) | (with_reducible refine Bb.set ?_ rfl) | (with_reducible refine Bb.grown ?_ (by assumption) (by assumption))))
    have Yz : Hid (Bb w2 (w.heap.size + 1 + 1) 45 #[.int .i64 0, .int .i64 0, .int .i64 0]) := by show Bb _ _ _ _; (repeat' (first | (with_reducible assumption) | (refine Bb.new (by first | (with_reducible rfl) | (simp; done))) | (with_reducible refine Bb.alloc ?_ _) | (with_reducible refine Bb.drew ?_) | (with_reducible refine Bb.drewN ?_ _) | (with_reducible refine Bb.mono ?_ (by assumption)) | (with_reducible refine Bb.far ?_ (by (try simp only [World.size_alloc, World.size_drew]); omega)) | (with_reducible refine Bb.set ?_ rfl) | (with_reducible refine Bb.grown ?_ (by assumption) (by assumption))))
    (try clear Rt)
    (try clear Xt)
    have Xt := Yt
    clear Yt
    (try clear Rp)
    (try clear Xp)
    have Xp := Yp
    clear Yp
    (try clear Rz)
    (try clear Xz)
    have Xz := Yz
    clear Yz
    have hB2 : Below w.heap.size w w2 := by (repeat' (first | (with_reducible exact Below.refl _ _) | (with_reducible assumption) | (with_reducible refine Below.alloc ?_ ?_ _) | (with_reducible refine Below.drew ?_) | (with_reducible refine bdN ?_ _) | (with_reducible refine Below.setCell ?_ ?_ _) | (with_reducible refine chn ?_ (by assumption) ?_) | omega | (simp; done) | (simp; omega)))
    clear hb2
    have ct0 := Xt.out.c 0 rfl
    have ct1 := Xt.out.c 1 rfl
    have ct2 := Xt.out.c 2 rfl
    have lt := Xt.out.lt
    have cp0 := Xp.out.c 0 rfl
    have cp1 := Xp.out.c 1 rfl
    have cp2 := Xp.out.c 2 rfl
    have lp := Xp.out.lt
    have cz0 := Xz.out.c 0 rfl
    have cz1 := Xz.out.c 1 rfl
    have cz2 := Xz.out.c 2 rfl
    have lz := Xz.out.lt
    have fz := Xz.out.f
    go_wp2_with (fail)
    refine bodyPost_ret (v := .tuple #[.agg #[.int .i64 0, .int .i64 0, .int .i64 0], .bool false]) (by first | (simp [results, Try.results51, go_sem, *]; done) | (simp (disch := (first | omega | (simp; done) | (simp; omega))) [results, Try.results51, go_sem, *]; done) | (simp only [results, Try.results51]; go_simp; done)) rfl ⟨rfl, ?_⟩
    (repeat' (first | (with_reducible exact Below.refl _ _) | (with_reducible assumption) | (with_reducible refine Below.alloc ?_ ?_ _) | (with_reducible refine Below.drew ?_) | (with_reducible refine bdN ?_ _) | (with_reducible refine Below.setCell ?_ ?_ _) | (with_reducible refine chn ?_ (by assumption) ?_) | omega | (simp; done) | (simp; omega)))

set_option maxRecDepth 100000 in
set_option maxHeartbeats 4000000 in
theorem im_s_t {n g h c1 c2 p0 px pz P X Z : Nat} {xs zs : List PauliV} {w : World} (q1 : 1 ≤ n) (q5 : n ≤ 5) (hp0 : p0 ≤ 3) (hpx : px < 2 ^ n) (hpz : pz < 2 ^ n) (ht : TOk (n : Int) n n xs zs) (hA : Rd pauliE w (some ⟨g, 0, none⟩) xs) (hB : Rd pauliE w (some ⟨h, 0, none⟩) zs) (hn : xs.length = n) (hm : zs.length = n) (hr : imgS px pz xs zs p0 n = (P, X, Z)) :
    Calls Try.prog 51 #[tableauV (n : Int) (some ⟨g, 0, none⟩) n c1 (some ⟨h, 0, none⟩) n c2, pA p0 px pz] w fun ee w' => ee = .returned (.tuple #[pA P X Z, .bool true]) ∧ Below w.heap.size w w' := by
  have HTT := lay ht
  have HX := lay (pB_of q1 q5 hp0 hpx hpz)
  obtain ⟨oX, oZ⟩ := TOk_L ((TOk_m q1 q5 hn hm).1 ht) hn hm
  have OX := lay oX
  have OZ := lay oZ
  have HA := lay hA
  have HB := lay hB
  have HR := lay hr
  have hml : n ≤ maxLen := by unfold maxLen; omega
  have H1 := lay hpx
  have H2 := lay hpz
  clear ht oX oZ hA hB hr hpx hpz
  go_enter Try.func51, Try.ntmps51
  go_wp2_with (fail)
  refine (gvs (t := true) (xs := xs) (zs := zs) ⟨fun _ => HTT.out, fun _ => rfl⟩ ?_ ?_ hn hm hml hml).mono ?_
  · exact HA.out.mono (by (repeat' (first | (with_reducible exact Below.refl _ _) | (with_reducible assumption) | (with_reducible refine Below.alloc ?_ ?_ _) | (with_reducible refine Below.drew ?_) | (with_reducible refine bdN ?_ _) | (with_reducible refine Below.setCell ?_ ?_ _) | (with_reducible refine chn ?_ (by assumption) ?_) | omega | (simp; done) | (simp; omega))))
  · exact HB.out.mono (by (repeat' (first | (with_reducible exact Below.refl _ _) | (with_reducible assumption) | (with_reducible refine Below.alloc ?_ ?_ _) | (with_reducible refine Below.drew ?_) | (with_reducible refine bdN ?_ _) | (with_reducible refine Below.setCell ?_ ?_ _) | (with_reducible refine chn ?_ (by assumption) ?_) | omega | (simp; done) | (simp; omega))))
  rintro ee w1 ⟨rfl, hb1⟩
  have hz1 := hb1.size
  (try simp only [World.size_alloc] at hz1)
  have Yt : Hid (Bb w1 (w.heap.size) 67 #[.int .i64 (n : Int), .slice (some ⟨g, 0, none⟩) n c1, .slice (some ⟨h, 0, none⟩) n c2]) := by show Bb _ _ _ _; (repeat' (first | (with_reducible assumption) | (refine Bb.new (by first | (with_reducible rfl) | (simp; done))) | (with_reducible refine Bb.alloc ?_ _) | (with_reducible refine Bb.drew ?_) | (with_reducible refine Bb.drewN ?_ _) | (with_reducible refine Bb.mono ?_ (by assumption)) | (with_reducible refine Bb.far ?_ (by (try simp only [World.size_alloc, World.size_drew]); omega)) | (with_reducible refine Bb.set ?_ rfl) | (with_reducible refine Bb.grown ?_ (by assumption) (by assumption))))
  have Yp : Hid (Bb w1 (w.heap.size + 1) 45 #[.int .i64 (p0 : Int), .int .i64 (px : Int), .int .i64 (pz : Int)]) := by show Bb _ _ _ _; (repeat' (first | (with_reducible assumption) | (refine Bb.new (by first | (with_reducible rfl) | (simp; done))) | (with_reducible refine Bb.alloc ?_ _) | (with_reducible refine Bb.drew ?_) | (with_reducible refine Bb.drewN ?_ _) | (with_reducible refine Bb.mono ?_ (by assumption)) | (with_reducible refine Bb.far ?_ (by (try simp only [World.size_alloc, World.size_drew]); omega)) | (with_reducible refine Bb.set ?_ rfl) | (with_reducible refine Bb.grown ?_ (by assumption) (by assumption))))
  have Yz : Hid (Bb w1 (w.heap.size + 1 + 1) 45 #[.int .i64 0, .int .i64 0, .int .i64 0]) := by show Bb _ _ _ _; (repeat' (first | (with_reducible assumption) | (refine Bb.new (by first | (with_reducible rfl) | (simp; done))) | (with_reducible refine Bb.alloc ?_ _) | (with_reducible refine Bb.drew ?_) | (with_reducible refine Bb.drewN ?_ _) | (with_reducible refine Bb.mono ?_ (by assumption)) | (with_reducible refine Bb.far ?_ (by (try simp only [World.size_alloc, World.size_drew]); omega)) | (with_reducible refine Bb.set ?_ rfl) | (with_reducible refine Bb.grown ?_ (by assumption) (by assumption))))
  (try clear Rt)
  (try clear Xt)
  have Xt := Yt
  clear Yt
  (try clear Rp)
  (try clear Xp)
  have Xp := Yp
  clear Yp
  (try clear Rz)
  (try clear Xz)
  have Xz := Yz
  clear Yz
  have hB1 : Below w.heap.size w w1 := by (repeat' (first | (with_reducible exact Below.refl _ _) | (with_reducible assumption) | (with_reducible refine Below.alloc ?_ ?_ _) | (with_reducible refine Below.drew ?_) | (with_reducible refine bdN ?_ _) | (with_reducible refine Below.setCell ?_ ?_ _) | (with_reducible refine chn ?_ (by assumption) ?_) | omega | (simp; done) | (simp; omega)))
  clear hb1
  have ct0 := Xt.out.c 0 rfl
  have ct1 := Xt.out.c 1 rfl
  have ct2 := Xt.out.c 2 rfl
  have lt := Xt.out.lt
  have cp0 := Xp.out.c 0 rfl
  have cp1 := Xp.out.c 1 rfl
  have cp2 := Xp.out.c 2 rfl
  have lp := Xp.out.lt
  have cz0 := Xz.out.c 0 rfl
  have cz1 := Xz.out.c 1 rfl
  have cz2 := Xz.out.c 2 rfl
  have lz := Xz.out.lt
  have fz := Xz.out.f
  go_wp2_with (fail)
  refine (l7v (x := pv p0 px pz) HX.out _).mono ?_
  rintro ee w2 ⟨rfl, hb2⟩
  have hz2 := hb2.size
  (try simp only [World.size_alloc] at hz2)
  clear ct0 ct1 ct2 lt cp0 cp1 cp2 lp cz0 cz1 cz2 lz fz
  have Rt := Xt.out
  have Rp := Xp.out
  have Rz := Xz.out
  have Yt : Hid (Bb w2 (w.heap.size) 67 #[.int .i64 (n : Int), .slice (some ⟨g, 0, none⟩) n c1, .slice (some ⟨h, 0, none⟩) n c2]) := by show Bb _ _ _ _; (repeat' (first | (with_reducible assumption) | (refine Bb.new (by first | (with_reducible rfl) | (simp; done))) | (with_reducible refine Bb.alloc ?_ _) | (with_reducible refine Bb.drew ?_) | (with_reducible refine Bb.drewN ?_ _) | (with_reducible refine Bb.mono ?_ (by assumption)) | (with_reducible refine Bb.far ?_ (by (try simp only [World.size_alloc, World.size_drew]); omega)) | (with_reducible refine Bb.set ?_ rfl) | (with_reducible refine Bb.grown ?_ (by assumption) (by assumption))))
  have Yp : Hid (Bb w2 (w.heap.size + 1) 45 #[.int .i64 (p0 : Int), .int .i64 (px : Int), .int .i64 (pz : Int)]) := by show Bb _ _ _ _; (repeat' (first | (with_reducible assumption) | (refine Bb.new (by first | (with_reducible rfl) | (simp; done))) | (with_reducible refine Bb.alloc ?_ _) | (with_reducible refine Bb.drew ?_) | (with_reducible refine Bb.drewN ?_ _) | (with_reducible refine Bb.mono ?_ (by assumption)) | (with_reducible refine Bb.far ?_ (by (try simp only [World.size_alloc, World.size_drew]); omega)) | (with_reducible refine Bb.set ?_ rfl) | (with_reducible refine Bb.grown ?_ (by assumption) (by assumption))))
  have Yz : Hid (Bb w2 (w.heap.size + 1 + 1) 45 #[.int .i64 0, .int .i64 0, .int .i64 0]) := by show Bb _ _ _ _; (repeat' (first | (with_reducible assumption) | (refine Bb.new (by first | (with_reducible rfl) | (simp; done))) | (with_reducible refine Bb.alloc ?_ _) | (with_reducible refine Bb.drew ?_) | (with_reducible refine Bb.drewN ?_ _) | (with_reducible refine Bb.mono ?_ (by assumption)) | (with_reducible refine Bb.far ?_ (by (try simp only [World.size_alloc, World.size_drew]); omega)) | (with_reducible refine Bb.set ?_ rfl) | (with_reducible refine Bb.grown ?_ (by assumption) (by assumption))))
  (try clear Rt)
  (try clear Xt)
  have Xt := Yt
  clear Yt
  (try clear Rp)
  (try clear Xp)
  have Xp := Yp
  clear Yp
  (try clear Rz)
  (try clear Xz)
  have Xz := Yz
  clear Yz
  have hB2 : Below w.heap.size w w2 := by (repeat' (first | (with_reducible exact Below.refl _ _) | (with_reducible assumption) | (with_reducible refine Below.alloc ?_ ?_ _) | (with_reducible refine Below.drew ?_) | (with_reducible refine bdN ?_ _) | (with_reducible refine Below.setCell ?_ ?_ _) | (with_reducible refine chn ?_ (by assumption) ?_) | omega | (simp; done) | (simp; omega)))
  clear hb2
  have ct0 := Xt.out.c 0 rfl
  have ct1 := Xt.out.c 1 rfl
  have ct2 := Xt.out.c 2 rfl
  have lt := Xt.out.lt
  have cp0 := Xp.out.c 0 rfl
  have cp1 := Xp.out.c 1 rfl
  have cp2 := Xp.out.c 2 rfl
  have lp := Xp.out.lt
  have cz0 := Xz.out.c 0 rfl
  have cz1 := Xz.out.c 1 rfl
  have cz2 := Xz.out.c 2 rfl
  have lz := Xz.out.lt
  have fz := Xz.out.f
  go_wp2_with (fail)
  refine (simg (xs := xs) (zs := zs) q5 hp0 H1.out H2.out ?_ ?_ OX.out OZ.out HR.out).mono ?_
  · exact HA.out.mono (by (repeat' (first | (with_reducible exact Below.refl _ _) | (with_reducible assumption) | (with_reducible refine Below.alloc ?_ ?_ _) | (with_reducible refine Below.drew ?_) | (with_reducible refine bdN ?_ _) | (with_reducible refine Below.setCell ?_ ?_ _) | (with_reducible refine chn ?_ (by assumption) ?_) | omega | (simp; done) | (simp; omega))))
  · exact HB.out.mono (by (repeat' (first | (with_reducible exact Below.refl _ _) | (with_reducible assumption) | (with_reducible refine Below.alloc ?_ ?_ _) | (with_reducible refine Below.drew ?_) | (with_reducible refine bdN ?_ _) | (with_reducible refine Below.setCell ?_ ?_ _) | (with_reducible refine chn ?_ (by assumption) ?_) | omega | (simp; done) | (simp; omega))))
  rintro ee w3 ⟨rfl, hok, hb3⟩
  have hz3 := hb3.size
  (try simp only [World.size_alloc] at hz3)
  clear ct0 ct1 ct2 lt cp0 cp1 cp2 lp cz0 cz1 cz2 lz fz
  have Rt := Xt.out
  have Rp := Xp.out
  have Rz := Xz.out
  have Yt : Hid (Bb w3 (w.heap.size) 67 #[.int .i64 (n : Int), .slice (some ⟨g, 0, none⟩) n c1, .slice (some ⟨h, 0, none⟩) n c2]) := by show Bb _ _ _ _; (repeat' (first | (with_reducible assumption) | (refine Bb.new (by first | (with_reducible rfl) | (simp; done))) | (with_reducible refine Bb.alloc ?_ _) | (with_reducible refine Bb.drew ?_) | (with_reducible refine Bb.drewN ?_ _) | (with_reducible refine Bb.mono ?_ (by assumption)) | (with_reducible refine Bb.far ?_ (by (try simp only [World.size_alloc, World.size_drew]); omega)) | (with_reducible refine Bb.set ?_ rfl) | (with_reducible refine Bb.grown ?_ (by assumption) (by assumption))))
  have Yp : Hid (Bb w3 (w.heap.size + 1) 45 #[.int .i64 (p0 : Int), .int .i64 (px : Int), .int .i64 (pz : Int)]) := by show Bb _ _ _ _; (repeat' (first | (with_reducible assumption) | (refine Bb.new (by first | (with_reducible rfl) | (simp; done))) | (with_reducible refine Bb.alloc ?_ _) | (with_reducible refine Bb.drew ?_) | (with_reducible refine Bb.drewN ?_ _) | (with_reducible refine Bb.mono ?_ (by assumption)) | (with_reducible refine Bb.far ?_ (by (try simp only [World.size_alloc, World.size_drew]); omega)) | (with_reducible refine Bb.set ?_ rfl) | (with_reducible refine Bb.grown ?_ (by assumption) (by assumption))))
  have Yz : Hid (Bb w3 (w.heap.size + 1 + 1) 45 #[.int .i64 0, .int .i64 0, .int .i64 0]) := by show Bb _ _ _ _; (repeat' (first | (with_reducible assumption) | (refine Bb.new (by first | (with_reducible rfl) | (simp; done))) | (with_reducible refine Bb.alloc ?_ _) | (with_reducible refine Bb.drew ?_) | (with_reducible refine Bb.drewN ?_ _) | (with_reducible refine Bb.mono ?_ (by assumption)) | (with_reducible refine Bb.far ?_ (by (try simp only [World.size_alloc, World.size_drew]); omega)) | (with_reducible refine Bb.set ?_ rfl) | (with_reducible refine Bb.grown ?_ (by assumption) (by assumption))))
  (try clear Rt)
  (try clear Xt)
  have Xt := Yt
  clear Yt
  (try clear Rp)
  (try clear Xp)
  have Xp := Yp
  clear Yp
  (try clear Rz)
  (try clear Xz)
  have Xz := Yz
  clear Yz
  have hB3 : Below w.heap.size w w3 := by (repeat' (first | (with_reducible exact Below.refl _ _) | (with_reducible assumption) | (with_reducible refine Below.alloc ?_ ?_ _) | (with_reducible refine Below.drew ?_) | (with_reducible refine bdN ?_ _) | (with_reducible refine Below.setCell ?_ ?_ _) | (with_reducible refine chn ?_ (by assumption) ?_) | omega | (simp; done) | (simp; omega)))
  clear hb3
  have ct0 := Xt.out.c 0 rfl
  have ct1 := Xt.out.c 1 rfl
  have ct2 := Xt.out.c 2 rfl
  have lt := Xt.out.lt
  have cp0 := Xp.out.c 0 rfl
  have cp1 := Xp.out.c 1 rfl
  have cp2 := Xp.out.c 2 rfl
  have lp := Xp.out.lt
  have cz0 := Xz.out.c 0 rfl
  have cz1 := Xz.out.c 1 rfl
  have cz2 := Xz.out.c 2 rfl
  have lz := Xz.out.lt
  have fz := Xz.out.f
  go_wp2_with (fail)
  refine bodyPost_ret (v := .tuple #[pA P X Z, .bool true]) (by first | (simp [results, Try.results51, go_sem, *]; done) | (simp (disch := (first | omega | (simp; done) | (simp; omega))) [results, Try.results51, go_sem, *]; done) | (simp only [results, Try.results51]; go_simp; done)) rfl ⟨rfl, ?_⟩
  (repeat' (first | (with_reducible exact Below.refl _ _) | (with_reducible assumption) | (with_reducible refine Below.alloc ?_ ?_ _) | (with_reducible refine Below.drew ?_) | (with_reducible refine bdN ?_ _) | (with_reducible refine Below.setCell ?_ ?_ _) | (with_reducible refine chn ?_ (by assumption) ?_) | omega | (simp; done) | (simp; omega)))

set_option maxRecDepth 100000 in
set_option maxHeartbeats 4000000 in
theorem im_i_t {n g h c1 c2 p0 px pz P X Z : Nat} {xs zs : List PauliV} {w : World} (q1 : 1 ≤ n) (q5 : n ≤ 5) (hp0 : p0 ≤ 3) (hpx : px < 2 ^ n) (hpz : pz < 2 ^ n) (ht : TOk (n : Int) n n xs zs) (hA : Rd pauliE w (some ⟨g, 0, none⟩) xs) (hB : Rd pauliE w (some ⟨h, 0, none⟩) zs) (hn : xs.length = n) (hm : zs.length = n) (hr : imgS px pz xs zs p0 n = (P, X, Z)) :
    Calls Try.prog 52 #[tableauV (n : Int) (some ⟨g, 0, none⟩) n c1 (some ⟨h, 0, none⟩) n c2, pA p0 px pz] w fun ee w' => ee = .returned (.tuple #[pA P X Z, .bool true]) ∧ Below w.heap.size w w' := by
  have HTT := lay ht
  have HX := lay (pB_of q1 q5 hp0 hpx hpz)
  obtain ⟨oX, oZ⟩ := TOk_L ((TOk_m q1 q5 hn hm).1 ht) hn hm
  have OX := lay oX
  have OZ := lay oZ
  have HA := lay hA
  have HB := lay hB
  have HR := lay hr
  have hml : n ≤ maxLen := by unfold maxLen; omega
  have H1 := lay hpx
  have H2 := lay hpz
  clear ht oX oZ hA hB hr hpx hpz
  go_enter Try.func52, Try.ntmps52
  go_wp2_with (fail)
  refine (ivt_i (t := true) (xs := xs) (zs := zs) ⟨fun _ => HTT.out, fun _ => rfl⟩ ?_ ?_ hn hm hml hml).mono ?_
  · exact HA.out.mono (by (repeat' (first | (with_reducible exact Below.refl _ _) | (with_reducible assumption) | (with_reducible refine Below.alloc ?_ ?_ _) | (with_reducible refine Below.drew ?_) | (with_reducible refine bdN ?_ _) | (with_reducible refine Below.setCell ?_ ?_ _) | (with_reducible refine chn ?_ (by assumption) ?_) | omega | (simp; done) | (simp; omega))))
  · exact HB.out.mono (by (repeat' (first | (with_reducible exact Below.refl _ _) | (with_reducible assumption) | (with_reducible refine Below.alloc ?_ ?_ _) | (with_reducible refine Below.drew ?_) | (with_reducible refine bdN ?_ _) | (with_reducible refine Below.setCell ?_ ?_ _) | (with_reducible refine chn ?_ (by assumption) ?_) | omega | (simp; done) | (simp; omega))))
  rintro ee w1 ⟨rfl, hb1⟩
  have hz1 := hb1.size
  (try simp only [World.size_alloc] at hz1)
  have Yt : Hid (Bb w1 (w.heap.size) 67 #[.int .i64 (n : Int), .slice (some ⟨g, 0, none⟩) n c1, .slice (some ⟨h, 0, none⟩) n c2]) := by show Bb _ _ _ _; (repeat' (first | (with_reducible assumption) | (refine Bb.new (by first | (with_reducible rfl) | (simp; done))) | (with_reducible refine Bb.alloc ?_ _) | (with_reducible refine Bb.drew ?_) | (with_reducible refine Bb.drewN ?_ _) | (with_reducible refine Bb.mono ?_ (by assumption)) | (with_reducible refine Bb.far ?_ (by (try simp only [World.size_alloc, World.size_drew]); omega)) | (with_reducible refine Bb.set ?_ rfl) | (with_reducible refine Bb.grown ?_ (by assumption) (by assumption))))
  have Yp : Hid (Bb w1 (w.heap.size + 1) 45 #[.int .i64 (p0 : Int), .int .i64 (px : Int), .int .i64 (pz : Int)]) := by show Bb _ _ _ _; (repeat' (first | (with_reducible assumption) | (refine Bb.new (by first | (with_reducible rfl) | (simp; done))) | (with_reducible refine Bb.alloc ?_ _) | (with_reducible refine Bb.drew ?_) | (with_reducible refine Bb.drewN ?_ _) | (with_reducible refine Bb.mono ?_ (by assumption)) | (with_reducible refine Bb.far ?_ (by (try simp only [World.size_alloc, World.size_drew]); omega)) | (with_reducible refine Bb.set ?_ rfl) | (with_reducible refine Bb.grown ?_ (by assumption) (by assumption))))
  have Yz : Hid (Bb w1 (w.heap.size + 1 + 1) 45 #[.int .i64 0, .int .i64 0, .int .i64 0]) := by show Bb _ _ _ _; (repeat' (first | (with_reducible assumption) | (refine Bb.new (by first | (with_reducible rfl) | (simp; done))) | (with_reducible refine Bb.alloc ?_ _) | (with_reducible refine Bb.drew ?_) | (with_reducible refine Bb.drewN ?_ _) | (with_reducible refine Bb.mono ?_ (by assumption)) | (with_reducible refine Bb.far ?_ (by (try simp only [World.size_alloc, World.size_drew]); omega)) | (with_reducible refine Bb.set ?_ rfl) | (with_reducible refine Bb.grown ?_ (by assumption) (by assumption))))
  (try clear Rt)
  (try clear Xt)
  have Xt := Yt
  clear Yt
  (try clear Rp)
  (try clear Xp)
  have Xp := Yp
  clear Yp
  (try clear Rz)
  (try clear Xz)
  have Xz := Yz
  clear Yz
  have hB1 : Below w.heap.size w w1 := by (repeat' (first | (with_reducible exact Below.refl _ _) | (with_reducible assumption) | (with_reducible refine Below.alloc ?_ ?_ _) | (with_reducible refine Below.drew ?_) | (with_reducible refine bdN ?_ _) | (with_reducible refine Below.setCell ?_ ?_ _) | (with_reducible refine chn ?_ (by assumption) ?_) | omega | (simp; done) | (simp; omega)))
  clear hb1
  have ct0 := Xt.out.c 0 rfl
  have ct1 := Xt.out.c 1 rfl
  have ct2 := Xt.out.c 2 rfl
  have lt := Xt.out.lt
  have cp0 := Xp.out.c 0 rfl
  have cp1 := Xp.out.c 1 rfl
  have cp2 := Xp.out.c 2 rfl
  have lp := Xp.out.lt
  have cz0 := Xz.out.c 0 rfl
  have cz1 := Xz.out.c 1 rfl
  have cz2 := Xz.out.c 2 rfl
  have lz := Xz.out.lt
  have fz := Xz.out.f
  go_wp2_with (fail)
  refine (ivp (x := pv p0 px pz) HX.out _).mono ?_
  rintro ee w2 ⟨rfl, hb2⟩
  have hz2 := hb2.size
  (try simp only [World.size_alloc] at hz2)
  clear ct0 ct1 ct2 lt cp0 cp1 cp2 lp cz0 cz1 cz2 lz fz
  have Rt := Xt.out
  have Rp := Xp.out
  have Rz := Xz.out
  have Yt : Hid (Bb w2 (w.heap.size) 67 #[.int .i64 (n : Int), .slice (some ⟨g, 0, none⟩) n c1, .slice (some ⟨h, 0, none⟩) n c2]) := by show Bb _ _ _ _; (repeat' (first | (with_reducible assumption) | (refine Bb.new (by first | (with_reducible rfl) | (simp; done))) | (with_reducible refine Bb.alloc ?_ _) | (with_reducible refine Bb.drew ?_) | (with_reducible refine Bb.drewN ?_ _) | (with_reducible refine Bb.mono ?_ (by assumption)) | (with_reducible refine Bb.far ?_ (by (try simp only [World.size_alloc, World.size_drew]); omega)) | (with_reducible refine Bb.set ?_ rfl) | (with_reducible refine Bb.grown ?_ (by assumption) (by assumption))))
  have Yp : Hid (Bb w2 (w.heap.size + 1) 45 #[.int .i64 (p0 : Int), .int .i64 (px : Int), .int .i64 (pz : Int)]) := by show Bb _ _ _ _; (repeat' (first | (with_reducible assumption) | (refine Bb.new (by first | (with_reducible rfl) | (simp; done))) | (with_reducible refine Bb.alloc ?_ _) | (with_reducible refine Bb.drew ?_) | (with_reducible refine Bb.drewN ?_ _) | (with_reducible refine Bb.mono ?_ (by assumption)) | (with_reducible refine Bb.far ?_ (by (try simp only [World.size_alloc, World.size_drew]); omega)) | (with_reducible refine Bb.set ?_ rfl) | (with_reducible refine Bb.grown ?_ (by assumption) (by assumption))))
  have Yz : Hid (Bb w2 (w.heap.size + 1 + 1) 45 #[.int .i64 0, .int .i64 0, .int .i64 0]) := by show Bb _ _ _ _; (repeat' (first | (with_reducible assumption) | (refine Bb.new (by first | (with_reducible rfl) | (simp; done))) | (with_reducible refine Bb.alloc ?_ _) | (with_reducible refine Bb.drew ?_) | (with_reducible refine Bb.drewN ?_ _) | (with_reducible refine Bb.mono ?_ (by assumption)) | (with_reducible refine Bb.far ?_ (by (try simp only [World.size_alloc, World.size_drew]); omega)) | (with_reducible refine Bb.set ?_ rfl) | (with_reducible refine Bb.grown ?_ (by assumption) (by assumption))))
  (try clear Rt)
  (try clear Xt)
  have Xt := Yt
  clear Yt
  (try clear Rp)
  (try clear Xp)
  have Xp := Yp
  clear Yp
  (try clear Rz)
  (try clear Xz)
  have Xz := Yz
  clear Yz
  have hB2 : Below w.heap.size w w2 := by (repeat' (first | (with_reducible exact Below.refl _ _) | (with_reducible assumption) | (with_reducible refine Below.alloc ?_ ?_ _) | (with_reducible refine Below.drew ?_) | (with_reducible refine bdN ?_ _) | (with_reducible refine Below.setCell ?_ ?_ _) | (with_reducible refine chn ?_ (by assumption) ?_) | omega | (simp; done) | (simp; omega)))
  clear hb2
  have ct0 := Xt.out.c 0 rfl
  have ct1 := Xt.out.c 1 rfl
  have ct2 := Xt.out.c 2 rfl
  have lt := Xt.out.lt
  have cp0 := Xp.out.c 0 rfl
  have cp1 := Xp.out.c 1 rfl
  have cp2 := Xp.out.c 2 rfl
  have lp := Xp.out.lt
  have cz0 := Xz.out.c 0 rfl
  have cz1 := Xz.out.c 1 rfl
  have cz2 := Xz.out.c 2 rfl
  have lz := Xz.out.lt
  have fz := Xz.out.f
  go_wp2_with (fail)
  have yct0 : w2.drew.cell? ⟨w.heap.size, 0, none⟩ = some (.int .i64 (n : Int)) := ct0
  have yct1 : w2.drew.cell? ⟨w.heap.size, 1, none⟩ = some (.slice (some ⟨g, 0, none⟩) n c1) := ct1
  have yct2 : w2.drew.cell? ⟨w.heap.size, 2, none⟩ = some (.slice (some ⟨h, 0, none⟩) n c2) := ct2
  have ycp0 : w2.drew.cell? ⟨w.heap.size + 1, 0, none⟩ = some (.int .i64 (p0 : Int)) := cp0
  have ycp1 : w2.drew.cell? ⟨w.heap.size + 1, 1, none⟩ = some (.int .i64 (px : Int)) := cp1
  have ycp2 : w2.drew.cell? ⟨w.heap.size + 1, 2, none⟩ = some (.int .i64 (pz : Int)) := cp2
  refine wp_region_x (fun w' => w'.cell? ⟨w.heap.size, 0, none⟩ = some (.int .i64 (n : Int)) ∧ w'.cell? ⟨w.heap.size, 1, none⟩ = some (.slice (some ⟨g, 0, none⟩) n c1) ∧ w'.cell? ⟨w.heap.size, 2, none⟩ = some (.slice (some ⟨h, 0, none⟩) n c2) ∧ w'.cell? ⟨w.heap.size + 1, 0, none⟩ = some (.int .i64 (p0 : Int)) ∧ w'.cell? ⟨w.heap.size + 1, 1, none⟩ = some (.int .i64 (px : Int)) ∧ w'.cell? ⟨w.heap.size + 1, 2, none⟩ = some (.int .i64 (pz : Int))) 1000 (by kernel_rfl) ⟨yct0, yct1, yct2, ycp0, ycp1, ycp2⟩ (fun hS0 => ?_)
  refine wpAnyX_take (i := 1) (oi := _) (v := ?_) rfl (by kernel_rfl) (by kernel_rfl) (by kernel_rfl) (by kernel_rfl) (fun _ _ _ h => h) (Or.inl ⟨by rfl, ?_⟩) hS0 ?_
  rotate_left 1
  · (intro w hSw; (try dsimp only at hSw); go_simp; (try with_reducible rfl))
  try simp only [Act.put, List.setIfInBounds_toArray, List.set_cons_zero, List.set_cons_succ]
  refine wpAnyX_take (i := 2) (oi := _) (v := ?_) rfl (by kernel_rfl) (by kernel_rfl) (by kernel_rfl) (by kernel_rfl) (fun _ _ _ h => h) (Or.inl ⟨by rfl, ?_⟩) hS0 ?_
  rotate_left 1
  · (intro w hSw; (try dsimp only at hSw); go_simp; (try with_reducible rfl))
  try simp only [Act.put, List.setIfInBounds_toArray, List.set_cons_zero, List.set_cons_succ]
  refine wpAnyX_one (i := 0) (o := _) rfl (by kernel_rfl) (fun K hK => ?_)
  go_simp
  refine (nlp _).mono ?_
  rintro ee w8 ⟨r, rfl, hP8, hr8, hb8⟩
  have k8 : Below w2.heap.size w2 w8 := ⟨hb8.os, hb8.tape, hb8.output, hb8.size, hb8.block⟩
  have hB8 : Below w.heap.size w w8 := chn hB2 k8 hB2.size
  refine hK.out _ _ (fun _ => ?_) (fun hS1 => ?_)
  · exact ⟨kcl hb8 (hS0.1), kcl hb8 (hS0.2.1), kcl hb8 (hS0.2.2.1), kcl hb8 (hS0.2.2.2.1), kcl hb8 (hS0.2.2.2.2.1), kcl hb8 (hS0.2.2.2.2.2)⟩
  clear hK K
  have hS1 := hS1 (by decide)
  try simp only [Act.put, List.setIfInBounds_toArray, List.set_cons_zero, List.set_cons_succ]
  refine wpAnyX_one (i := 3) (o := _) rfl (by kernel_rfl) (fun K hK => ?_)
  go_simp
  refine (iimg (xs := xs) (zs := zs) q5 hp0 H1.out H2.out hP8 ?_ ?_ OX.out OZ.out HR.out).mono ?_
  · exact HA.out.mono hB8
  · exact HB.out.mono hB8
  rintro ee w9 ⟨rfl, hok, hb9⟩
  refine hK.out _ _ (fun _ => ?_) (fun hS2 => ?_)
  · exact ⟨kcl hb9 (hS1.1), kcl hb9 (hS1.2.1), kcl hb9 (hS1.2.2.1), kcl hb9 (hS1.2.2.2.1), kcl hb9 (hS1.2.2.2.2.1), kcl hb9 (hS1.2.2.2.2.2)⟩
  clear hK K
  have hS2 := hS2 (by decide)
  try simp only [Act.put, List.setIfInBounds_toArray, List.set_cons_zero, List.set_cons_succ]
  refine wpAnyX_one (i := 4) (o := _) rfl (by kernel_rfl) (fun K hK => ?_)
  have hW8 : Below w2.heap.size w2 w9 := chn k8 hb9 k8.size
  have xz9 := Xz.out.mono hW8
  have fz8 := xz9.f
  have cz90 := xz9.c 0 rfl
  have cz91 := xz9.c 1 rfl
  have cz92 := xz9.c 2 rfl
  go_simp
  refine hK.out _ _ (fun _ => ?_) (fun hS3 => ?_)
  · exact ⟨kclS3 (by omega) (hS2.1), kclS3 (by omega) (hS2.2.1), kclS3 (by omega) (hS2.2.2.1), kclS3 (by omega) (hS2.2.2.2.1), kclS3 (by omega) (hS2.2.2.2.2.1), kclS3 (by omega) (hS2.2.2.2.2.2)⟩
  clear hK K
  have hS3 := hS3 (by decide)
  try simp only [Act.put, List.setIfInBounds_toArray, List.set_cons_zero, List.set_cons_succ]
  refine wpAnyX_take (i := 5) (oi := _) (v := ?_) rfl (by kernel_rfl) (by kernel_rfl) (by kernel_rfl) (by kernel_rfl) (fun _ _ _ h => h) (Or.inl ⟨by rfl, ?_⟩) hS3 ?_
  rotate_left 1
  · (intro w hSw; (try dsimp only at hSw); go_simp; (try with_reducible rfl))
  change wpAnyX _ _ _ _ _ _ _ _ (Act.put _ (some 5) _) _
  try simp only [Act.put, List.setIfInBounds_toArray, List.set_cons_zero, List.set_cons_succ]
  refine wpAnyX_done (by kernel_rfl) ?_ _
  go_wp2_with (fail)
  refine bodyPost_ret (v := .tuple #[pA P X Z, .bool true]) (by first | (simp [results, Try.results52, go_sem, *]; done) | (simp (disch := (first | omega | (simp; done) | (simp; omega))) [results, Try.results52, go_sem, *]; done) | (simp only [results, Try.results52]; go_simp; done)) rfl ⟨rfl, ?_⟩
  have hB9 := chn hB2 hW8 hB2.size
  (repeat' (first | (with_reducible exact Below.refl _ _) | (with_reducible assumption) | (with_reducible refine Below.alloc ?_ ?_ _) | (with_reducible refine Below.drew ?_) | (with_reducible refine bdN ?_ _) | (with_reducible refine Below.setCell ?_ ?_ _) | (with_reducible refine chn ?_ (by assumption) ?_) | omega | (simp; done) | (simp; omega)))

end Go.Proofs.Ytgcligmpdlffoaa.C4
