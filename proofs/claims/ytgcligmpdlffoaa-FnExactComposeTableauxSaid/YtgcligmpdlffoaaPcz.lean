/- ComposeTableaux. -/
import Derived.Test.YtgcligmpdlffoaaPco
import Derived.Test.YtgcligmpdlffoaaPcs
import Derived.Test.YtgcligmpdlffoaaPio
import Derived.Test.YtgcligmpdlffoaaPit
namespace Go.Proofs.Ytgcligmpdlffoaa.C4
open Go.RowKit
set_option linter.unusedVariables false
set_option linter.unusedSimpArgs false
attribute [local irreducible] World.setCell

set_option maxRecDepth 100000 in
set_option maxHeartbeats 4000000 in
theorem cz_i_f {a0 b0 : Int} {g h p q n1 n2 m1 m2 c1 c2 d1 d2 : Nat} {xs zs us vs : List PauliV} {w : World} (hf : ¬ (TOk a0 n1 n2 xs zs ∧ TOk b0 m1 m2 us vs ∧ a0 = b0)) (hA : Rd pauliE w (some ⟨g, 0, none⟩) xs) (hB : Rd pauliE w (some ⟨h, 0, none⟩) zs) (hC : Rd pauliE w (some ⟨p, 0, none⟩) us) (hD : Rd pauliE w (some ⟨q, 0, none⟩) vs) (hn : xs.length = n1) (hm : zs.length = n2) (hk : us.length = m1) (hl : vs.length = m2) (hb1 : n1 ≤ maxLen) (hb2 : n2 ≤ maxLen) (hb3 : m1 ≤ maxLen) (hb4 : m2 ≤ maxLen) :
    Calls Try.prog 54 #[tableauV a0 (some ⟨g, 0, none⟩) n1 c1 (some ⟨h, 0, none⟩) n2 c2, tableauV b0 (some ⟨p, 0, none⟩) m1 d1 (some ⟨q, 0, none⟩) m2 d2] w fun ee w' => ee = .returned (.tuple #[tableauV 0 none 0 0 none 0 0, .bool false]) ∧ Below w.heap.size w w' := by
  have HA := lay hA
  have HB := lay hB
  have HC := lay hC
  have HD := lay hD
  clear hA hB hC hD
  by_cases ht : TOk a0 n1 n2 xs zs
  · by_cases hu : TOk b0 m1 m2 us vs
    · have hne : ¬ (a0 = b0) := fun e => hf ⟨ht, hu, e⟩
      have hnb : (a0 != b0) = true := by simpa using hne
      have HT := lay ht
      have HU := lay hu
      clear ht hu hf
      go_enter Try.func54, Try.ntmps54
      go_wp2_with (fail)
      refine (ivt_i (t := true) (xs := xs) (zs := zs) ⟨fun _ => HT.out, fun _ => rfl⟩ ?_ ?_ hn hm hb1 hb2).mono ?_
      · exact HA.out.mono (by (repeat' (first | (with_reducible exact Below.refl _ _) | (with_reducible assumption) | (with_reducible refine Below.alloc ?_ ?_ _) | (with_reducible refine Below.drew ?_) | (with_reducible refine bdN ?_ _) | (with_reducible refine Below.setCell ?_ ?_ _) | (with_reducible refine chn ?_ (by assumption) ?_) | omega | (simp; done) | (simp; omega))))
      · exact HB.out.mono (by (repeat' (first | (with_reducible exact Below.refl _ _) | (with_reducible assumption) | (with_reducible refine Below.alloc ?_ ?_ _) | (with_reducible refine Below.drew ?_) | (with_reducible refine bdN ?_ _) | (with_reducible refine Below.setCell ?_ ?_ _) | (with_reducible refine chn ?_ (by assumption) ?_) | omega | (simp; done) | (simp; omega))))
      rintro ee w1 ⟨rfl, hb1⟩
      have hz1 := hb1.size
      (try simp only [World.size_alloc] at hz1)
      have Ya : Hid (Bb w1 (w.heap.size) 67 #[.int .i64 a0, .slice (some ⟨g, 0, none⟩) n1 c1, .slice (some ⟨h, 0, none⟩) n2 c2]) := by show Bb _ _ _ _; (repeat' (first | (with_reducible assumption) | (refine Bb.new (by first | (with_reducible rfl) | (simp; done))) | (with_reducible refine Bb.alloc ?_ _) | (with_reducible refine Bb.drew ?_) | (with_reducible refine Bb.drewN ?_ _) | (with_reducible refine Bb.mono ?_ (by assumption)) | (with_reducible refine Bb.far ?_ (by (try simp only [World.size_alloc, World.size_drew]); omega)) | (with_reducible refine Bb.set ?_ rfl) | (with_reducible refine Bb.grown ?_ (by assumption) (by assumption))))
      have Yb : Hid (Bb w1 (w.heap.size + 1) 67 #[.int .i64 b0, .slice (some ⟨p, 0, none⟩) m1 d1, .slice (some ⟨q, 0, none⟩) m2 d2]) := by show Bb _ _ _ _; (repeat' (first | (with_reducible assumption) | (refine Bb.new (by first | (with_reducible rfl) | (simp; done))) | (with_reducible refine Bb.alloc ?_ _) | (with_reducible refine Bb.drew ?_) | (with_reducible refine Bb.drewN ?_ _) | (with_reducible refine Bb.mono ?_ (by assumption)) | (with_reducible refine Bb.far ?_ (by (try simp only [World.size_alloc, World.size_drew]); omega)) | (with_reducible refine Bb.set ?_ rfl) | (with_reducible refine Bb.grown ?_ (by assumption) (by assumption))))
      have Yz : Hid (Bb w1 (w.heap.size + 1 + 1) 67 #[.int .i64 0, .slice none 0 0, .slice none 0 0]) := by show Bb _ _ _ _; (repeat' (first | (with_reducible assumption) | (refine Bb.new (by first | (with_reducible rfl) | (simp; done))) | (with_reducible refine Bb.alloc ?_ _) | (with_reducible refine Bb.drew ?_) | (with_reducible refine Bb.drewN ?_ _) | (with_reducible refine Bb.mono ?_ (by assumption)) | (with_reducible refine Bb.far ?_ (by (try simp only [World.size_alloc, World.size_drew]); omega)) | (with_reducible refine Bb.set ?_ rfl) | (with_reducible refine Bb.grown ?_ (by assumption) (by assumption))))
      (try clear Ra)
      (try clear Xa)
      have Xa := Ya
      clear Ya
      (try clear Rb)
      (try clear Xb)
      have Xb := Yb
      clear Yb
      (try clear Rz)
      (try clear Xz)
      have Xz := Yz
      clear Yz
      have hB1 : Below w.heap.size w w1 := by (repeat' (first | (with_reducible exact Below.refl _ _) | (with_reducible assumption) | (with_reducible refine Below.alloc ?_ ?_ _) | (with_reducible refine Below.drew ?_) | (with_reducible refine bdN ?_ _) | (with_reducible refine Below.setCell ?_ ?_ _) | (with_reducible refine chn ?_ (by assumption) ?_) | omega | (simp; done) | (simp; omega)))
      clear hb1
      have ca0 := Xa.out.c 0 rfl
      have ca1 := Xa.out.c 1 rfl
      have ca2 := Xa.out.c 2 rfl
      have la := Xa.out.lt
      have cb0 := Xb.out.c 0 rfl
      have cb1 := Xb.out.c 1 rfl
      have cb2 := Xb.out.c 2 rfl
      have lb := Xb.out.lt
      have cz0 := Xz.out.c 0 rfl
      have cz1 := Xz.out.c 1 rfl
      have cz2 := Xz.out.c 2 rfl
      have lz := Xz.out.lt
      have fz := Xz.out.f
      go_wp2_with (fail)
      refine (ivt_i (t := true) (xs := us) (zs := vs) ⟨fun _ => HU.out, fun _ => rfl⟩ ?_ ?_ hk hl hb3 hb4).mono ?_
      · exact HC.out.mono (by (repeat' (first | (with_reducible exact Below.refl _ _) | (with_reducible assumption) | (with_reducible refine Below.alloc ?_ ?_ _) | (with_reducible refine Below.drew ?_) | (with_reducible refine bdN ?_ _) | (with_reducible refine Below.setCell ?_ ?_ _) | (with_reducible refine chn ?_ (by assumption) ?_) | omega | (simp; done) | (simp; omega))))
      · exact HD.out.mono (by (repeat' (first | (with_reducible exact Below.refl _ _) | (with_reducible assumption) | (with_reducible refine Below.alloc ?_ ?_ _) | (with_reducible refine Below.drew ?_) | (with_reducible refine bdN ?_ _) | (with_reducible refine Below.setCell ?_ ?_ _) | (with_reducible refine chn ?_ (by assumption) ?_) | omega | (simp; done) | (simp; omega))))
      rintro ee w2 ⟨rfl, hb2⟩
      have hz2 := hb2.size
      (try simp only [World.size_alloc] at hz2)
      clear ca0 ca1 ca2 la cb0 cb1 cb2 lb cz0 cz1 cz2 lz fz
      have Ra := Xa.out
      have Rb := Xb.out
      have Rz := Xz.out
      have Ya : Hid (Bb w2 (w.heap.size) 67 #[.int .i64 a0, .slice (some ⟨g, 0, none⟩) n1 c1, .slice (some ⟨h, 0, none⟩) n2 c2]) := by show Bb _ _ _ _; (repeat' (first | (with_reducible assumption) | (refine Bb.new (by first | (with_reducible rfl) | (simp; done))) | (with_reducible refine Bb.alloc ?_ _) | (with_reducible refine Bb.drew ?_) | (with_reducible refine Bb.drewN ?_ _) | (with_reducible refine Bb.mono ?_ (by assumption)) | (with_reducible refine Bb.far ?_ (by (try simp only [World.size_alloc, World.size_drew]); omega)) | (with_reducible refine Bb.set ?_ rfl) | (with_reducible refine Bb.grown ?_ (by assumption) (by assumption))))
      have Yb : Hid (Bb w2 (w.heap.size + 1) 67 #[.int .i64 b0, .slice (some ⟨p, 0, none⟩) m1 d1, .slice (some ⟨q, 0, none⟩) m2 d2]) := by show Bb _ _ _ _; (repeat' (first | (with_reducible assumption) | (refine Bb.new (by first | (with_reducible rfl) | (simp; done))) | (with_reducible refine Bb.alloc ?_ _) | (with_reducible refine Bb.drew ?_) | (with_reducible refine Bb.drewN ?_ _) | (with_reducible refine Bb.mono ?_ (by assumption)) | (with_reducible refine Bb.far ?_ (by (try simp only [World.size_alloc, World.size_drew]); omega)) | (with_reducible refine Bb.set ?_ rfl) | (with_reducible refine Bb.grown ?_ (by assumption) (by assumption))))
      have Yz : Hid (Bb w2 (w.heap.size + 1 + 1) 67 #[.int .i64 0, .slice none 0 0, .slice none 0 0]) := by show Bb _ _ _ _; (repeat' (first | (with_reducible assumption) | (refine Bb.new (by first | (with_reducible rfl) | (simp; done))) | (with_reducible refine Bb.alloc ?_ _) | (with_reducible refine Bb.drew ?_) | (with_reducible refine Bb.drewN ?_ _) | (with_reducible refine Bb.mono ?_ (by assumption)) | (with_reducible refine Bb.far ?_ (by (try simp only [World.size_alloc, World.size_drew]); omega)) | (with_reducible refine Bb.set ?_ rfl) | (with_reducible refine Bb.grown ?_ (by assumption) (by assumption))))
      (try clear Ra)
      (try clear Xa)
      have Xa := Ya
      clear Ya
      (try clear Rb)
      (try clear Xb)
      have Xb := Yb
      clear Yb
      (try clear Rz)
      (try clear Xz)
      have Xz := Yz
      clear Yz
      have hB2 : Below w.heap.size w w2 := by (repeat' (first | (with_reducible exact Below.refl _ _) | (with_reducible assumption) | (with_reducible refine Below.alloc ?_ ?_ _) | (with_reducible refine Below.drew ?_) | (with_reducible refine bdN ?_ _) | (with_reducible refine Below.setCell ?_ ?_ _) | (with_reducible refine chn ?_ (by assumption) ?_) | omega | (simp; done) | (simp; omega)))
      clear hb2
      have ca0 := Xa.out.c 0 rfl
      have ca1 := Xa.out.c 1 rfl
      have ca2 := Xa.out.c 2 rfl
      have la := Xa.out.lt
      have cb0 := Xb.out.c 0 rfl
      have cb1 := Xb.out.c 1 rfl
      have cb2 := Xb.out.c 2 rfl
      have lb := Xb.out.lt
      have cz0 := Xz.out.c 0 rfl
      have cz1 := Xz.out.c 1 rfl
      have cz2 := Xz.out.c 2 rfl
      have lz := Xz.out.lt
      have fz := Xz.out.f
      go_wp2_with (fail)
      refine bodyPost_ret (v := .tuple #[.agg #[.int .i64 0, .slice none 0 0, .slice none 0 0], .bool false]) (by first | (simp [results, Try.results54, go_sem, *]; done) | (simp (disch := (first | omega | (simp; done) | (simp; omega))) [results, Try.results54, go_sem, *]; done) | (simp only [results, Try.results54]; go_simp; done)) rfl ⟨rfl, ?_⟩
      (repeat' (first | (with_reducible exact Below.refl _ _) | (with_reducible assumption) | (with_reducible refine Below.alloc ?_ ?_ _) | (with_reducible refine Below.drew ?_) | (with_reducible refine bdN ?_ _) | (with_reducible refine Below.setCell ?_ ?_ _) | (with_reducible refine chn ?_ (by assumption) ?_) | omega | (simp; done) | (simp; omega)))
    · have HT := lay ht
      have HU := lay hu
      clear ht hu hf
      go_enter Try.func54, Try.ntmps54
      go_wp2_with (fail)
      refine (ivt_i (t := true) (xs := xs) (zs := zs) ⟨fun _ => HT.out, fun _ => rfl⟩ ?_ ?_ hn hm hb1 hb2).mono ?_
      · exact HA.out.mono (by (repeat' (first | (with_reducible exact Below.refl _ _) | (with_reducible assumption) | (with_reducible refine Below.alloc ?_ ?_ _) | (with_reducible refine Below.drew ?_) | (with_reducible refine bdN ?_ _) | (with_reducible refine Below.setCell ?_ ?_ _) | (with_reducible refine chn ?_ (by assumption) ?_) | omega | (simp; done) | (simp; omega))))
      · exact HB.out.mono (by (repeat' (first | (with_reducible exact Below.refl _ _) | (with_reducible assumption) | (with_reducible refine Below.alloc ?_ ?_ _) | (with_reducible refine Below.drew ?_) | (with_reducible refine bdN ?_ _) | (with_reducible refine Below.setCell ?_ ?_ _) | (with_reducible refine chn ?_ (by assumption) ?_) | omega | (simp; done) | (simp; omega))))
      rintro ee w1 ⟨rfl, hb1⟩
      have hz1 := hb1.size
      (try simp only [World.size_alloc] at hz1)
      have Ya : Hid (Bb w1 (w.heap.size) 67 #[.int .i64 a0, .slice (some ⟨g, 0, none⟩) n1 c1, .slice (some ⟨h, 0, none⟩) n2 c2]) := by show Bb _ _ _ _; (repeat' (first | (with_reducible assumption) | (refine Bb.new (by first | (with_reducible rfl) | (simp; done))) | (with_reducible refine Bb.alloc ?_ _) | (with_reducible refine Bb.drew ?_) | (with_reducible refine Bb.drewN ?_ _) | (with_reducible refine Bb.mono ?_ (by assumption)) | (with_reducible refine Bb.far ?_ (by (try simp only [World.size_alloc, World.size_drew]); omega)) | (with_reducible refine Bb.set ?_ rfl) | (with_reducible refine Bb.grown ?_ (by assumption) (by assumption))))
      have Yb : Hid (Bb w1 (w.heap.size + 1) 67 #[.int .i64 b0, .slice (some ⟨p, 0, none⟩) m1 d1, .slice (some ⟨q, 0, none⟩) m2 d2]) := by show Bb _ _ _ _; (repeat' (first | (with_reducible assumption) | (refine Bb.new (by first | (with_reducible rfl) | (simp; done))) | (with_reducible refine Bb.alloc ?_ _) | (with_reducible refine Bb.drew ?_) | (with_reducible refine Bb.drewN ?_ _) | (with_reducible refine Bb.mono ?_ (by assumption)) | (with_reducible refine Bb.far ?_ (by (try simp only [World.size_alloc, World.size_drew]); omega)) | (with_reducible refine Bb.set ?_ rfl) | (with_reducible refine Bb.grown ?_ (by assumption) (by assumption))))
      have Yz : Hid (Bb w1 (w.heap.size + 1 + 1) 67 #[.int .i64 0, .slice none 0 0, .slice none 0 0]) := by show Bb _ _ _ _; (repeat' (first | (with_reducible assumption) | (refine Bb.new (by first | (with_reducible rfl) | (simp; done))) | (with_reducible refine Bb.alloc ?_ _) | (with_reducible refine Bb.drew ?_) | (with_reducible refine Bb.drewN ?_ _) | (with_reducible refine Bb.mono ?_ (by assumption)) | (with_reducible refine Bb.far ?_ (by (try simp only [World.size_alloc, World.size_drew]); omega)) | (with_reducible refine Bb.set ?_ rfl) | (with_reducible refine Bb.grown ?_ (by assumption) (by assumption))))
      (try clear Ra)
      (try clear Xa)
      have Xa := Ya
      clear Ya
      (try clear Rb)
      (try clear Xb)
      have Xb := Yb
      clear Yb
      (try clear Rz)
      (try clear Xz)
      have Xz := Yz
      clear Yz
      have hB1 : Below w.heap.size w w1 := by (repeat' (first | (with_reducible exact Below.refl _ _) | (with_reducible assumption) | (with_reducible refine Below.alloc ?_ ?_ _) | (with_reducible refine Below.drew ?_) | (with_reducible refine bdN ?_ _) | (with_reducible refine Below.setCell ?_ ?_ _) | (with_reducible refine chn ?_ (by assumption) ?_) | omega | (simp; done) | (simp; omega)))
      clear hb1
      have ca0 := Xa.out.c 0 rfl
      have ca1 := Xa.out.c 1 rfl
      have ca2 := Xa.out.c 2 rfl
      have la := Xa.out.lt
      have cb0 := Xb.out.c 0 rfl
      have cb1 := Xb.out.c 1 rfl
      have cb2 := Xb.out.c 2 rfl
      have lb := Xb.out.lt
      have cz0 := Xz.out.c 0 rfl
      have cz1 := Xz.out.c 1 rfl
      have cz2 := Xz.out.c 2 rfl
      have lz := Xz.out.lt
      have fz := Xz.out.f
      go_wp2_with (fail)
      refine (ivt_i (t := false) (xs := us) (zs := vs) ⟨fun h => (by cases h), fun h => absurd h HU.out⟩ ?_ ?_ hk hl hb3 hb4).mono ?_
      · exact HC.out.mono (by (repeat' (first | (with_reducible exact Below.refl _ _) | (with_reducible assumption) | (with_reducible refine Below.alloc ?_ ?_ _) | (with_reducible refine Below.drew ?_) | (with_reducible refine bdN ?_ _) | (with_reducible refine Below.setCell ?_ ?_ _) | (with_reducible refine chn ?_ (by assumption) ?_) | omega | (simp; done) | (simp; omega))))
      · exact HD.out.mono (by (repeat' (first | (with_reducible exact Below.refl _ _) | (with_reducible assumption) | (with_reducible refine Below.alloc ?_ ?_ _) | (with_reducible refine Below.drew ?_) | (with_reducible refine bdN ?_ _) | (with_reducible refine Below.setCell ?_ ?_ _) | (with_reducible refine chn ?_ (by assumption) ?_) | omega | (simp; done) | (simp; omega))))
      rintro ee w2 ⟨rfl, hb2⟩
      have hz2 := hb2.size
      (try simp only [World.size_alloc] at hz2)
      clear ca0 ca1 ca2 la cb0 cb1 cb2 lb cz0 cz1 cz2 lz fz
      have Ra := Xa.out
      have Rb := Xb.out
      have Rz := Xz.out
      have Ya : Hid (Bb w2 (w.heap.size) 67 #[.int .i64 a0, .slice (some ⟨g, 0, none⟩) n1 c1, .slice (some ⟨h, 0, none⟩) n2 c2]) := by show Bb _ _ _ _; (repeat' (first | (with_reducible assumption) | (refine Bb.new (by first | (with_reducible rfl) | (simp; done))) | (with_reducible refine Bb.alloc ?_ _) | (with_reducible refine Bb.drew ?_) | (with_reducible refine Bb.drewN ?_ _) | (with_reducible refine Bb.mono ?_ (by assumption)) | (with_reducible refine Bb.far ?_ (by (try simp only [World.size_alloc, World.size_drew]); omega)) | (with_reducible refine Bb.set ?_ rfl) | (with_reducible refine Bb.grown ?_ (by assumption) (by assumption))))
      have Yb : Hid (Bb w2 (w.heap.size + 1) 67 #[.int .i64 b0, .slice (some ⟨p, 0, none⟩) m1 d1, .slice (some ⟨q, 0, none⟩) m2 d2]) := by show Bb _ _ _ _; (repeat' (first | (with_reducible assumption) | (refine Bb.new (by first | (with_reducible rfl) | (simp; done))) | (with_reducible refine Bb.alloc ?_ _) | (with_reducible refine Bb.drew ?_) | (with_reducible refine Bb.drewN ?_ _) | (with_reducible refine Bb.mono ?_ (by assumption)) | (with_reducible refine Bb.far ?_ (by (try simp only [World.size_alloc, World.size_drew]); omega)) | (with_reducible refine Bb.set ?_ rfl) | (with_reducible refine Bb.grown ?_ (by assumption) (by assumption))))
      have Yz : Hid (Bb w2 (w.heap.size + 1 + 1) 67 #[.int .i64 0, .slice none 0 0, .slice none 0 0]) := by show Bb _ _ _ _; (repeat' (first | (with_reducible assumption) | (refine Bb.new (by first | (with_reducible rfl) | (simp; done))) | (with_reducible refine Bb.alloc ?_ _) | (with_reducible refine Bb.drew ?_) | (with_reducible refine Bb.drewN ?_ _) | (with_reducible refine Bb.mono ?_ (by assumption)) | (with_reducible refine Bb.far ?_ (by (try simp only [World.size_alloc, World.size_drew]); omega)) | (with_reducible refine Bb.set ?_ rfl) | (with_reducible refine Bb.grown ?_ (by assumption) (by assumption))))
      (try clear Ra)
      (try clear Xa)
      have Xa := Ya
      clear Ya
      (try clear Rb)
      (try clear Xb)
      have Xb := Yb
      clear Yb
      (try clear Rz)
      (try clear Xz)
      have Xz := Yz
      clear Yz
      have hB2 : Below w.heap.size w w2 := by (repeat' (first | (with_reducible exact Below.refl _ _) | (with_reducible assumption) | (with_reducible refine Below.alloc ?_ ?_ _) | (with_reducible refine Below.drew ?_) | (with_reducible refine bdN ?_ _) | (with_reducible refine Below.setCell ?_ ?_ _) | (with_reducible refine chn ?_ (by assumption) ?_) | omega | (simp; done) | (simp; omega)))
      clear hb2
      have ca0 := Xa.out.c 0 rfl
      have ca1 := Xa.out.c 1 rfl
      have ca2 := Xa.out.c 2 rfl
      have la := Xa.out.lt
      have cb0 := Xb.out.c 0 rfl
      have cb1 := Xb.out.c 1 rfl
      have cb2 := Xb.out.c 2 rfl
      have lb := Xb.out.lt
      have cz0 := Xz.out.c 0 rfl
      have cz1 := Xz.out.c 1 rfl
      have cz2 := Xz.out.c 2 rfl
      have lz := Xz.out.lt
      have fz := Xz.out.f
      go_wp2_with (fail)
      refine bodyPost_ret (v := .tuple #[.agg #[.int .i64 0, .slice none 0 0, .slice none 0 0], .bool false]) (by first | (simp [results, Try.results54, go_sem, *]; done) | (simp (disch := (first | omega | (simp; done) | (simp; omega))) [results, Try.results54, go_sem, *]; done) | (simp only [results, Try.results54]; go_simp; done)) rfl ⟨rfl, ?_⟩
      (repeat' (first | (with_reducible exact Below.refl _ _) | (with_reducible assumption) | (with_reducible refine Below.alloc ?_ ?_ _) | (with_reducible refine Below.drew ?_) | (with_reducible refine bdN ?_ _) | (with_reducible refine Below.setCell ?_ ?_ _) | (with_reducible refine chn ?_ (by assumption) ?_) | omega | (simp; done) | (simp; omega)))
  · have HT := lay ht
    clear ht hf
    go_enter Try.func54, Try.ntmps54
    go_wp2_with (fail)
    refine (ivt_i (t := false) (xs := xs) (zs := zs) ⟨fun h => (by cases h), fun h => absurd h HT.out⟩ ?_ ?_ hn hm hb1 hb2).mono ?_
    · exact HA.out.mono (by (repeat' (first | (with_reducible exact Below.refl _ _) | (with_reducible assumption) | (with_reducible refine Below.alloc ?_ ?_ _) | (with_reducible refine Below.drew ?_) | (with_reducible refine bdN ?_ _) | (with_reducible refine Below.setCell ?_ ?_ _) | (with_reducible refine chn ?_ (by assumption) ?_) | omega | (simp; done) | (simp; omega))))
    · exact HB.out.mono (by (repeat' (first | (with_reducible exact Below.refl _ _) | (with_reducible assumption) | (with_reducible refine Below.alloc ?_ ?_ _) | (with_reducible refine Below.drew ?_) | (with_reducible refine bdN ?_ _) | (with_reducible refine Below.setCell ?_ ?_ _) | (with_reducible refine chn ?_ (by assumption) ?_) | omega | (simp; done) | (simp; omega))))
    rintro ee w1 ⟨rfl, hb1⟩
    have hz1 := hb1.size
    (try simp only [World.size_alloc] at hz1)
    have Ya : Hid (Bb w1 (w.heap.size) 67 #[.int .i64 a0, .slice (some ⟨g, 0, none⟩) n1 c1, .slice (some ⟨h, 0, none⟩) n2 c2]) := by show Bb _ _ _ _; (repeat' (first | (with_reducible assumption) | (refine Bb.new (by first | (with_reducible rfl) | (simp; done))) | (with_reducible refine Bb.alloc ?_ _) | (with_reducible refine Bb.drew ?_) | (with_reducible refine Bb.drewN ?_ _) | (with_reducible refine Bb.mono ?_ (by assumption)) | (with_reducible refine Bb.far ?_ (by (try simp only [World.size_alloc, World.size_drew]); omega)) | (with_reducible refine Bb.set ?_ rfl) | (with_reducible refine Bb.grown ?_ (by assumption) (by assumption))))
    have Yb : Hid (Bb w1 (w.heap.size + 1) 67 #[.int .i64 b0, .slice (some ⟨p, 0, none⟩) m1 d1, .slice (some ⟨q, 0, none⟩) m2 d2]) := by show Bb _ _ _ _; (repeat' (first | (with_reducible assumption) | (refine Bb.new (by first | (with_reducible rfl) | (simp; done))) | (with_reducible refine Bb.alloc ?_ _) | (with_reducible refine Bb.drew ?_) | (with_reducible refine Bb.drewN ?_ _) | (with_reducible refine Bb.mono ?_ (by assumption)) | (with_reducible refine Bb.far ?_ (by (try simp only [World.size_alloc, World.size_drew]); omega)) | (with_reducible refine Bb.set ?_ rfl) | (with_reducible refine Bb.grown ?_ (by assumption) (by assumption))))
    have Yz : Hid (Bb w1 (w.heap.size + 1 + 1) 67 #[.int .i64 0, .slice none 0 0, .slice none 0 0]) := by show Bb _ _ _ _; (repeat' (first | (with_reducible assumption) | (refine Bb.new (by first | (with_reducible rfl) | (simp; done))) | (with_reducible refine Bb.alloc ?_ _) | (with_reducible refine Bb.drew ?_) | (with_reducible refine Bb.drewN ?_ _) | (with_reducible refine Bb.mono ?_ (by assumption)) | (with_reducible refine Bb.far ?_ (by (try simp only [World.size_alloc, World.size_drew]); omega)) | (with_reducible refine Bb.set ?_ rfl) | (with_reducible refine Bb.grown ?_ (by assumption) (by assumption))))
    (try clear Ra)
    (try clear Xa)
    have Xa := Ya
    clear Ya
    (try clear Rb)
    (try clear Xb)
    have Xb := Yb
    clear Yb
    (try clear Rz)
    (try clear Xz)
    have Xz := Yz
    clear Yz
    have hB1 : Below w.heap.size w w1 := by (repeat' (first | (with_reducible exact Below.refl _ _) | (with_reducible assumption) | (with_reducible refine Below.alloc ?_ ?_ _) | (with_reducible refine Below.drew ?_) | (with_reducible refine bdN ?_ _) | (with_reducible refine Below.setCell ?_ ?_ _) | (with_reducible refine chn ?_ (by assumption) ?_) | omega | (simp; done) | (simp; omega)))
    clear hb1
    have ca0 := Xa.out.c 0 rfl
    have ca1 := Xa.out.c 1 rfl
    have ca2 := Xa.out.c 2 rfl
    have la := Xa.out.lt
    have cb0 := Xb.out.c 0 rfl
    have cb1 := Xb.out.c 1 rfl
    have cb2 := Xb.out.c 2 rfl
    have lb := Xb.out.lt
    have cz0 := Xz.out.c 0 rfl
    have cz1 := Xz.out.c 1 rfl
    have cz2 := Xz.out.c 2 rfl
    have lz := Xz.out.lt
    have fz := Xz.out.f
    go_wp2_with (fail)
    refine bodyPost_ret (v := .tuple #[.agg #[.int .i64 0, .slice none 0 0, .slice none 0 0], .bool false]) (by first | (simp [results, Try.results54, go_sem, *]; done) | (simp (disch := (first | omega | (simp; done) | (simp; omega))) [results, Try.results54, go_sem, *]; done) | (simp only [results, Try.results54]; go_simp; done)) rfl ⟨rfl, ?_⟩
    (repeat' (first | (with_reducible exact Below.refl _ _) | (with_reducible assumption) | (with_reducible refine Below.alloc ?_ ?_ _) | (with_reducible refine Below.drew ?_) | (with_reducible refine bdN ?_ _) | (with_reducible refine Below.setCell ?_ ?_ _) | (with_reducible refine chn ?_ (by assumption) ?_) | omega | (simp; done) | (simp; omega)))

set_option maxRecDepth 100000 in
set_option maxHeartbeats 4000000 in
theorem cz_s_f {a0 b0 : Int} {g h p q n1 n2 m1 m2 c1 c2 d1 d2 : Nat} {xs zs us vs : List PauliV} {w : World} (hf : ¬ (TOk a0 n1 n2 xs zs ∧ TOk b0 m1 m2 us vs ∧ a0 = b0)) (hA : Rd pauliE w (some ⟨g, 0, none⟩) xs) (hB : Rd pauliE w (some ⟨h, 0, none⟩) zs) (hC : Rd pauliE w (some ⟨p, 0, none⟩) us) (hD : Rd pauliE w (some ⟨q, 0, none⟩) vs) (hn : xs.length = n1) (hm : zs.length = n2) (hk : us.length = m1) (hl : vs.length = m2) (hb1 : n1 ≤ maxLen) (hb2 : n2 ≤ maxLen) (hb3 : m1 ≤ maxLen) (hb4 : m2 ≤ maxLen) :
    Calls Try.prog 53 #[tableauV a0 (some ⟨g, 0, none⟩) n1 c1 (some ⟨h, 0, none⟩) n2 c2, tableauV b0 (some ⟨p, 0, none⟩) m1 d1 (some ⟨q, 0, none⟩) m2 d2] w fun ee w' => ee = .returned (.tuple #[tableauV 0 none 0 0 none 0 0, .bool false]) ∧ Below w.heap.size w w' := by
  have HA := lay hA
  have HB := lay hB
  have HC := lay hC
  have HD := lay hD
  clear hA hB hC hD
  by_cases ht : TOk a0 n1 n2 xs zs
  · by_cases hu : TOk b0 m1 m2 us vs
    · have hne : ¬ (a0 = b0) := fun e => hf ⟨ht, hu, e⟩
      have hnb : (a0 != b0) = true := by simpa using hne
      have HT := lay ht
      have HU := lay hu
      clear ht hu hf
      go_enter Try.func53, Try.ntmps53
      go_wp2_with (fail)
      refine (gvs (t := true) (xs := xs) (zs := zs) ⟨fun _ => HT.out, fun _ => rfl⟩ ?_ ?_ hn hm hb1 hb2).mono ?_
      · exact HA.out.mono (by (repeat' (first | (with_reducible exact Below.refl _ _) | (with_reducible assumption) | (with_reducible refine Below.alloc ?_ ?_ _) | (with_reducible refine Below.drew ?_) | (with_reducible refine bdN ?_ _) | (with_reducible refine Below.setCell ?_ ?_ _) | (with_reducible refine chn ?_ (by assumption) ?_) | omega | (simp; done) | (simp; omega))))
      · exact HB.out.mono (by (repeat' (first | (with_reducible exact Below.refl _ _) | (with_reducible assumption) | (with_reducible refine Below.alloc ?_ ?_ _) | (with_reducible refine Below.drew ?_) | (with_reducible refine bdN ?_ _) | (with_reducible refine Below.setCell ?_ ?_ _) | (with_reducible refine chn ?_ (by assumption) ?_) | omega | (simp; done) | (simp; omega))))
      rintro ee w1 ⟨rfl, hb1⟩
      have hz1 := hb1.size
      (try simp only [World.size_alloc] at hz1)
      have Ya : Hid (Bb w1 (w.heap.size) 67 #[.int .i64 a0, .slice (some ⟨g, 0, none⟩) n1 c1, .slice (some ⟨h, 0, none⟩) n2 c2]) := by show Bb _ _ _ _; (repeat' (first | (with_reducible assumption) | (refine Bb.new (by first | (with_reducible rfl) | (simp; done))) | (with_reducible refine Bb.alloc ?_ _) | (with_reducible refine Bb.drew ?_) | (with_reducible refine Bb.drewN ?_ _) | (with_reducible refine Bb.mono ?_ (by assumption)) | (with_reducible refine Bb.far ?_ (by (try simp only [World.size_alloc, World.size_drew]); omega)) | (with_reducible refine Bb.set ?_ rfl) | (with_reducible refine Bb.grown ?_ (by assumption) (by assumption))))
      have Yb : Hid (Bb w1 (w.heap.size + 1) 67 #[.int .i64 b0, .slice (some ⟨p, 0, none⟩) m1 d1, .slice (some ⟨q, 0, none⟩) m2 d2]) := by show Bb _ _ _ _; (repeat' (first | (with_reducible assumption) | (refine Bb.new (by first | (with_reducible rfl) | (simp; done))) | (with_reducible refine Bb.alloc ?_ _) | (with_reducible refine Bb.drew ?_) | (with_reducible refine Bb.drewN ?_ _) | (with_reducible refine Bb.mono ?_ (by assumption)) | (with_reducible refine Bb.far ?_ (by (try simp only [World.size_alloc, World.size_drew]); omega)) | (with_reducible refine Bb.set ?_ rfl) | (with_reducible refine Bb.grown ?_ (by assumption) (by assumption))))
      have Yz : Hid (Bb w1 (w.heap.size + 1 + 1) 67 #[.int .i64 0, .slice none 0 0, .slice none 0 0]) := by show Bb _ _ _ _; (repeat' (first | (with_reducible assumption) | (refine Bb.new (by first | (with_reducible rfl) | (simp; done))) | (with_reducible refine Bb.alloc ?_ _) | (with_reducible refine Bb.drew ?_) | (with_reducible refine Bb.drewN ?_ _) | (with_reducible refine Bb.mono ?_ (by assumption)) | (with_reducible refine Bb.far ?_ (by (try simp only [World.size_alloc, World.size_drew]); omega)) | (with_reducible refine Bb.set ?_ rfl) | (with_reducible refine Bb.grown ?_ (by assumption) (by assumption))))
      (try clear Ra)
      (try clear Xa)
      have Xa := Ya
      clear Ya
      (try clear Rb)
      (try clear Xb)
      have Xb := Yb
      clear Yb
      (try clear Rz)
      (try clear Xz)
      have Xz := Yz
      clear Yz
      have hB1 : Below w.heap.size w w1 := by (repeat' (first | (with_reducible exact Below.refl _ _) | (with_reducible assumption) | (with_reducible refine Below.alloc ?_ ?_ _) | (with_reducible refine Below.drew ?_) | (with_reducible refine bdN ?_ _) | (with_reducible refine Below.setCell ?_ ?_ _) | (with_reducible refine chn ?_ (by assumption) ?_) | omega | (simp; done) | (simp; omega)))
      clear hb1
      have ca0 := Xa.out.c 0 rfl
      have ca1 := Xa.out.c 1 rfl
      have ca2 := Xa.out.c 2 rfl
      have la := Xa.out.lt
      have cb0 := Xb.out.c 0 rfl
      have cb1 := Xb.out.c 1 rfl
      have cb2 := Xb.out.c 2 rfl
      have lb := Xb.out.lt
      have cz0 := Xz.out.c 0 rfl
      have cz1 := Xz.out.c 1 rfl
      have cz2 := Xz.out.c 2 rfl
      have lz := Xz.out.lt
      have fz := Xz.out.f
      go_wp2_with (fail)
      refine (gvs (t := true) (xs := us) (zs := vs) ⟨fun _ => HU.out, fun _ => rfl⟩ ?_ ?_ hk hl hb3 hb4).mono ?_
      · exact HC.out.mono (by (repeat' (first | (with_reducible exact Below.refl _ _) | (with_reducible assumption) | (with_reducible refine Below.alloc ?_ ?_ _) | (with_reducible refine Below.drew ?_) | (with_reducible refine bdN ?_ _) | (with_reducible refine Below.setCell ?_ ?_ _) | (with_reducible refine chn ?_ (by assumption) ?_) | omega | (simp; done) | (simp; omega))))
      · exact HD.out.mono (by (repeat' (first | (with_reducible exact Below.refl _ _) | (with_reducible assumption) | (with_reducible refine Below.alloc ?_ ?_ _) | (with_reducible refine Below.drew ?_) | (with_reducible refine bdN ?_ _) | (with_reducible refine Below.setCell ?_ ?_ _) | (with_reducible refine chn ?_ (by assumption) ?_) | omega | (simp; done) | (simp; omega))))
      rintro ee w2 ⟨rfl, hb2⟩
      have hz2 := hb2.size
      (try simp only [World.size_alloc] at hz2)
      clear ca0 ca1 ca2 la cb0 cb1 cb2 lb cz0 cz1 cz2 lz fz
      have Ra := Xa.out
      have Rb := Xb.out
      have Rz := Xz.out
      have Ya : Hid (Bb w2 (w.heap.size) 67 #[.int .i64 a0, .slice (some ⟨g, 0, none⟩) n1 c1, .slice (some ⟨h, 0, none⟩) n2 c2]) := by show Bb _ _ _ _; (repeat' (first | (with_reducible assumption) | (refine Bb.new (by first | (with_reducible rfl) | (simp; done))) | (with_reducible refine Bb.alloc ?_ _) | (with_reducible refine Bb.drew ?_) | (with_reducible refine Bb.drewN ?_ _) | (with_reducible refine Bb.mono ?_ (by assumption)) | (with_reducible refine Bb.far ?_ (by (try simp only [World.size_alloc, World.size_drew]); omega)) | (with_reducible refine Bb.set ?_ rfl) | (with_reducible refine Bb.grown ?_ (by assumption) (by assumption))))
      have Yb : Hid (Bb w2 (w.heap.size + 1) 67 #[.int .i64 b0, .slice (some ⟨p, 0, none⟩) m1 d1, .slice (some ⟨q, 0, none⟩) m2 d2]) := by show Bb _ _ _ _; (repeat' (first | (with_reducible assumption) | (refine Bb.new (by first | (with_reducible rfl) | (simp; done))) | (with_reducible refine Bb.alloc ?_ _) | (with_reducible refine Bb.drew ?_) | (with_reducible refine Bb.drewN ?_ _) | (with_reducible refine Bb.mono ?_ (by assumption)) | (with_reducible refine Bb.far ?_ (by (try simp only [World.size_alloc, World.size_drew]); omega)) | (with_reducible refine Bb.set ?_ rfl) | (with_reducible refine Bb.grown ?_ (by assumption) (by assumption))))
      have Yz : Hid (Bb w2 (w.heap.size + 1 + 1) 67 #[.int .i64 0, .slice none 0 0, .slice none 0 0]) := by show Bb _ _ _ _; (repeat' (first | (with_reducible assumption) | (refine Bb.new (by first | (with_reducible rfl) | (simp; done))) | (with_reducible refine Bb.alloc ?_ _) | (with_reducible refine Bb.drew ?_) | (with_reducible refine Bb.drewN ?_ _) | (with_reducible refine Bb.mono ?_ (by assumption)) | (with_reducible refine Bb.far ?_ (by (try simp only [World.size_alloc, World.size_drew]); omega)) | (with_reducible refine Bb.set ?_ rfl) | (with_reducible refine Bb.grown ?_ (by assumption) (by assumption))))
      (try clear Ra)
      (try clear Xa)
      have Xa := Ya
      clear Ya
      (try clear Rb)
      (try clear Xb)
      have Xb := Yb
      clear Yb
      (try clear Rz)
      (try clear Xz)
      have Xz := Yz
      clear Yz
      have hB2 : Below w.heap.size w w2 := by (repeat' (first | (with_reducible exact Below.refl _ _) | (with_reducible assumption) | (with_reducible refine Below.alloc ?_ ?_ _) | (with_reducible refine Below.drew ?_) | (with_reducible refine bdN ?_ _) | (with_reducible refine Below.setCell ?_ ?_ _) | (with_reducible refine chn ?_ (by assumption) ?_) | omega | (simp; done) | (simp; omega)))
      clear hb2
      have ca0 := Xa.out.c 0 rfl
      have ca1 := Xa.out.c 1 rfl
      have ca2 := Xa.out.c 2 rfl
      have la := Xa.out.lt
      have cb0 := Xb.out.c 0 rfl
      have cb1 := Xb.out.c 1 rfl
      have cb2 := Xb.out.c 2 rfl
      have lb := Xb.out.lt
      have cz0 := Xz.out.c 0 rfl
      have cz1 := Xz.out.c 1 rfl
      have cz2 := Xz.out.c 2 rfl
      have lz := Xz.out.lt
      have fz := Xz.out.f
      go_wp2_with (fail)
      refine bodyPost_ret (v := .tuple #[.agg #[.int .i64 0, .slice none 0 0, .slice none 0 0], .bool false]) (by first | (simp [results, Try.results53, go_sem, *]; done) | (simp (disch := (first | omega | (simp; done) | (simp; omega))) [results, Try.results53, go_sem, *]; done) | (simp only [results, Try.results53]; go_simp; done)) rfl ⟨rfl, ?_⟩
      (repeat' (first | (with_reducible exact Below.refl _ _) | (with_reducible assumption) | (with_reducible refine Below.alloc ?_ ?_ _) | (with_reducible refine Below.drew ?_) | (with_reducible refine bdN ?_ _) | (with_reducible refine Below.setCell ?_ ?_ _) | (with_reducible refine chn ?_ (by assumption) ?_) | omega | (simp; done) | (simp; omega)))
    · have HT := lay ht
      have HU := lay hu
      clear ht hu hf
      go_enter Try.func53, Try.ntmps53
      go_wp2_with (fail)
      refine (gvs (t := true) (xs := xs) (zs := zs) ⟨fun _ => HT.out, fun _ => rfl⟩ ?_ ?_ hn hm hb1 hb2).mono ?_
      · exact HA.out.mono (by (repeat' (first | (with_reducible exact Below.refl _ _) | (with_reducible assumption) | (with_reducible refine Below.alloc ?_ ?_ _) | (with_reducible refine Below.drew ?_) | (with_reducible refine bdN ?_ _) | (with_reducible refine Below.setCell ?_ ?_ _) | (with_reducible refine chn ?_ (by assumption) ?_) | omega | (simp; done) | (simp; omega))))
      · exact HB.out.mono (by (repeat' (first | (with_reducible exact Below.refl _ _) | (with_reducible assumption) | (with_reducible refine Below.alloc ?_ ?_ _) | (with_reducible refine Below.drew ?_) | (with_reducible refine bdN ?_ _) | (with_reducible refine Below.setCell ?_ ?_ _) | (with_reducible refine chn ?_ (by assumption) ?_) | omega | (simp; done) | (simp; omega))))
      rintro ee w1 ⟨rfl, hb1⟩
      have hz1 := hb1.size
      (try simp only [World.size_alloc] at hz1)
      have Ya : Hid (Bb w1 (w.heap.size) 67 #[.int .i64 a0, .slice (some ⟨g, 0, none⟩) n1 c1, .slice (some ⟨h, 0, none⟩) n2 c2]) := by show Bb _ _ _ _; (repeat' (first | (with_reducible assumption) | (refine Bb.new (by first | (with_reducible rfl) | (simp; done))) | (with_reducible refine Bb.alloc ?_ _) | (with_reducible refine Bb.drew ?_) | (with_reducible refine Bb.drewN ?_ _) | (with_reducible refine Bb.mono ?_ (by assumption)) | (with_reducible refine Bb.far ?_ (by (try simp only [World.size_alloc, World.size_drew]); omega)) | (with_reducible refine Bb.set ?_ rfl) | (with_reducible refine Bb.grown ?_ (by assumption) (by assumption))))
      have Yb : Hid (Bb w1 (w.heap.size + 1) 67 #[.int .i64 b0, .slice (some ⟨p, 0, none⟩) m1 d1, .slice (some ⟨q, 0, none⟩) m2 d2]) := by show Bb _ _ _ _; (repeat' (first | (with_reducible assumption) | (refine Bb.new (by first | (with_reducible rfl) | (simp; done))) | (with_reducible refine Bb.alloc ?_ _) | (with_reducible refine Bb.drew ?_) | (with_reducible refine Bb.drewN ?_ _) | (with_reducible refine Bb.mono ?_ (by assumption)) | (with_reducible refine Bb.far ?_ (by (try simp only [World.size_alloc, World.size_drew]); omega)) | (with_reducible refine Bb.set ?_ rfl) | (with_reducible refine Bb.grown ?_ (by assumption) (by assumption))))
      have Yz : Hid (Bb w1 (w.heap.size + 1 + 1) 67 #[.int .i64 0, .slice none 0 0, .slice none 0 0]) := by show Bb _ _ _ _; (repeat' (first | (with_reducible assumption) | (refine Bb.new (by first | (with_reducible rfl) | (simp; done))) | (with_reducible refine Bb.alloc ?_ _) | (with_reducible refine Bb.drew ?_) | (with_reducible refine Bb.drewN ?_ _) | (with_reducible refine Bb.mono ?_ (by assumption)) | (with_reducible refine Bb.far ?_ (by (try simp only [World.size_alloc, World.size_drew]); omega)) | (with_reducible refine Bb.set ?_ rfl) | (with_reducible refine Bb.grown ?_ (by assumption) (by assumption))))
      (try clear Ra)
      (try clear Xa)
      have Xa := Ya
      clear Ya
      (try clear Rb)
      (try clear Xb)
      have Xb := Yb
      clear Yb
      (try clear Rz)
      (try clear Xz)
      have Xz := Yz
      clear Yz
      have hB1 : Below w.heap.size w w1 := by (repeat' (first | (with_reducible exact Below.refl _ _) | (with_reducible assumption) | (with_reducible refine Below.alloc ?_ ?_ _) | (with_reducible refine Below.drew ?_) | (with_reducible refine bdN ?_ _) | (with_reducible refine Below.setCell ?_ ?_ _) | (with_reducible refine chn ?_ (by assumption) ?_) | omega | (simp; done) | (simp; omega)))
      clear hb1
      have ca0 := Xa.out.c 0 rfl
      have ca1 := Xa.out.c 1 rfl
      have ca2 := Xa.out.c 2 rfl
      have la := Xa.out.lt
      have cb0 := Xb.out.c 0 rfl
      have cb1 := Xb.out.c 1 rfl
      have cb2 := Xb.out.c 2 rfl
      have lb := Xb.out.lt
      have cz0 := Xz.out.c 0 rfl
      have cz1 := Xz.out.c 1 rfl
      have cz2 := Xz.out.c 2 rfl
      have lz := Xz.out.lt
      have fz := Xz.out.f
      go_wp2_with (fail)
      refine (gvs (t := false) (xs := us) (zs := vs) ⟨fun h => (by cases h), fun h => absurd h HU.out⟩ ?_ ?_ hk hl hb3 hb4).mono ?_
      · exact HC.out.mono (by (repeat' (first | (with_reducible exact Below.refl _ _) | (with_reducible assumption) | (with_reducible refine Below.alloc ?_ ?_ _) | (with_reducible refine Below.drew ?_) | (with_reducible refine bdN ?_ _) | (with_reducible refine Below.setCell ?_ ?_ _) | (with_reducible refine chn ?_ (by assumption) ?_) | omega | (simp; done) | (simp; omega))))
      · exact HD.out.mono (by (repeat' (first | (with_reducible exact Below.refl _ _) | (with_reducible assumption) | (with_reducible refine Below.alloc ?_ ?_ _) | (with_reducible refine Below.drew ?_) | (with_reducible refine bdN ?_ _) | (with_reducible refine Below.setCell ?_ ?_ _) | (with_reducible refine chn ?_ (by assumption) ?_) | omega | (simp; done) | (simp; omega))))
      rintro ee w2 ⟨rfl, hb2⟩
      have hz2 := hb2.size
      (try simp only [World.size_alloc] at hz2)
      clear ca0 ca1 ca2 la cb0 cb1 cb2 lb cz0 cz1 cz2 lz fz
      have Ra := Xa.out
      have Rb := Xb.out
      have Rz := Xz.out
      have Ya : Hid (Bb w2 (w.heap.size) 67 #[.int .i64 a0, .slice (some ⟨g, 0, none⟩) n1 c1, .slice (some ⟨h, 0, none⟩) n2 c2]) := by show Bb _ _ _ _; (repeat' (first | (with_reducible assumption) | (refine Bb.new (by first | (with_reducible rfl) | (simp; done))) | (with_reducible refine Bb.alloc ?_ _) | (with_reducible refine Bb.drew ?_) | (with_reducible refine Bb.drewN ?_ _) | (with_reducible refine Bb.mono ?_ (by assumption)) | (with_reducible refine Bb.far ?_ (by (try simp only [World.size_alloc, World.size_drew]); omega)) | (with_reducible refine Bb.set ?_ rfl) | (with_reducible refine Bb.grown ?_ (by assumption) (by assumption))))
      have Yb : Hid (Bb w2 (w.heap.size + 1) 67 #[.int .i64 b0, .slice (some ⟨p, 0, none⟩) m1 d1, .slice (some ⟨q, 0, none⟩) m2 d2]) := by show Bb _ _ _ _; (repeat' (first | (with_reducible assumption) | (refine Bb.new (by first | (with_reducible rfl) | (simp; done))) | (with_reducible refine Bb.alloc ?_ _) | (with_reducible refine Bb.drew ?_) | (with_reducible refine Bb.drewN ?_ _) | (with_reducible refine Bb.mono ?_ (by assumption)) | (with_reducible refine Bb.far ?_ (by (try simp only [World.size_alloc, World.size_drew]); omega)) | (with_reducible refine Bb.set ?_ rfl) | (with_reducible refine Bb.grown ?_ (by assumption) (by assumption))))
      have Yz : Hid (Bb w2 (w.heap.size + 1 + 1) 67 #[.int .i64 0, .slice none 0 0, .slice none 0 0]) := by show Bb _ _ _ _; (repeat' (first | (with_reducible assumption) | (refine Bb.new (by first | (with_reducible rfl) | (simp; done))) | (with_reducible refine Bb.alloc ?_ _) | (with_reducible refine Bb.drew ?_) | (with_reducible refine Bb.drewN ?_ _) | (with_reducible refine Bb.mono ?_ (by assumption)) | (with_reducible refine Bb.far ?_ (by (try simp only [World.size_alloc, World.size_drew]); omega)) | (with_reducible refine Bb.set ?_ rfl) | (with_reducible refine Bb.grown ?_ (by assumption) (by assumption))))
      (try clear Ra)
      (try clear Xa)
      have Xa := Ya
      clear Ya
      (try clear Rb)
      (try clear Xb)
      have Xb := Yb
      clear Yb
      (try clear Rz)
      (try clear Xz)
      have Xz := Yz
      clear Yz
      have hB2 : Below w.heap.size w w2 := by (repeat' (first | (with_reducible exact Below.refl _ _) | (with_reducible assumption) | (with_reducible refine Below.alloc ?_ ?_ _) | (with_reducible refine Below.drew ?_) | (with_reducible refine bdN ?_ _) | (with_reducible refine Below.setCell ?_ ?_ _) | (with_reducible refine chn ?_ (by assumption) ?_) | omega | (simp; done) | (simp; omega)))
      clear hb2
      have ca0 := Xa.out.c 0 rfl
      have ca1 := Xa.out.c 1 rfl
      have ca2 := Xa.out.c 2 rfl
      have la := Xa.out.lt
      have cb0 := Xb.out.c 0 rfl
      have cb1 := Xb.out.c 1 rfl
      have cb2 := Xb.out.c 2 rfl
      have lb := Xb.out.lt
      have cz0 := Xz.out.c 0 rfl
      have cz1 := Xz.out.c 1 rfl
      have cz2 := Xz.out.c 2 rfl
      have lz := Xz.out.lt
      have fz := Xz.out.f
      go_wp2_with (fail)
      refine bodyPost_ret (v := .tuple #[.agg #[.int .i64 0, .slice none 0 0, .slice none 0 0], .bool false]) (by first | (simp [results, Try.results53, go_sem, *]; done) | (simp (disch := (first | omega | (simp; done) | (simp; omega))) [results, Try.results53, go_sem, *]; done) | (simp only [results, Try.results53]; go_simp; done)) rfl ⟨rfl, ?_⟩
      (repeat' (first | (with_reducible exact Below.refl _ _) | (with_reducible assumption) | (with_reducible refine Below.alloc ?_ ?_ _) | (with_reducible refine Below.drew ?_) | (with_reducible refine bdN ?_ _) | (with_reducible refine Below.setCell ?_ ?_ _) | (with_reducible refine chn ?_ (by assumption) ?_) | omega | (simp; done) | (simp; omega)))
  · have HT := lay ht
    clear ht hf
    go_enter Try.func53, Try.ntmps53
    go_wp2_with (fail)
    refine (gvs (t := false) (xs := xs) (zs := zs) ⟨fun h => (by cases h), fun h => absurd h HT.out⟩ ?_ ?_ hn hm hb1 hb2).mono ?_
    · exact HA.out.mono (by (repeat' (first | (with_reducible exact Below.refl _ _) | (with_reducible assumption) | (with_reducible refine Below.alloc ?_ ?_ _) | (with_reducible refine Below.drew ?_) | (with_reducible refine bdN ?_ _) | (with_reducible refine Below.setCell ?_ ?_ _) | (with_reducible refine chn ?_ (by assumption) ?_) | omega | (simp; done) | (simp; omega))))
    · exact HB.out.mono (by (repeat' (first | (with_reducible exact Below.refl _ _) | (with_reducible assumption) | (with_reducible refine Below.alloc ?_ ?_ _) | (with_reducible refine Below.drew ?_) | (with_reducible refine bdN ?_ _) | (with_reducible refine Below.setCell ?_ ?_ _) | (with_reducible refine chn ?_ (by assumption) ?_) | omega | (simp; done) | (simp; omega))))
    rintro ee w1 ⟨rfl, hb1⟩
    have hz1 := hb1.size
    (try simp only [World.size_alloc] at hz1)
    have Ya : Hid (Bb w1 (w.heap.size) 67 #[.int .i64 a0, .slice (some ⟨g, 0, none⟩) n1 c1, .slice (some ⟨h, 0, none⟩) n2 c2]) := by show Bb _ _ _ _; (repeat' (first | (with_reducible assumption) | (refine Bb.new (by first | (with_reducible rfl) | (simp; done))) | (with_reducible refine Bb.alloc ?_ _) | (with_reducible refine Bb.drew ?_) | (with_reducible refine Bb.drewN ?_ _) | (with_reducible refine Bb.mono ?_ (by assumption)) | (with_reducible refine Bb.far ?_ (by (try simp only [World.size_alloc, World.size_drew]); omega)) | (with_reducible refine Bb.set ?_ rfl) | (with_reducible refine Bb.grown ?_ (by assumption) (by assumption))))
    have Yb : Hid (Bb w1 (w.heap.size + 1) 67 #[.int .i64 b0, .slice (some ⟨p, 0, none⟩) m1 d1, .slice (some ⟨q, 0, none⟩) m2 d2]) := by show Bb _ _ _ _; (repeat' (first | (with_reducible assumption) | (refine Bb.new (by first | (with_reducible rfl) | (simp; done))) | (with_reducible refine Bb.alloc ?_ _) | (with_reducible refine Bb.drew ?_) | (with_reducible refine Bb.drewN ?_ _) | (with_reducible refine Bb.mono ?_ (by assumption)) | (with_reducible refine Bb.far ?_ (by (try simp only [World.size_alloc, World.size_drew]); omega)) | (with_reducible refine Bb.set ?_ rfl) | (with_reducible refine Bb.grown ?_ (by assumption) (by assumption))))
    have Yz : Hid (Bb w1 (w.heap.size + 1 + 1) 67 #[.int .i64 0, .slice none 0 0, .slice none 0 0]) := by show Bb _ _ _ _; (repeat' (first | (with_reducible assumption) | (refine Bb.new (by first | (with_reducible rfl) | (simp; done))) | (with_reducible refine Bb.alloc ?_ _) | (with_reducible refine Bb.drew ?_) | (with_reducible refine Bb.drewN ?_ _) | (with_reducible refine Bb.mono ?_ (by assumption)) | (with_reducible refine Bb.far ?_ (by (try simp only [World.size_alloc, World.size_drew]); omega)) | (with_reducible refine Bb.set ?_ rfl) | (with_reducible refine Bb.grown ?_ (by assumption) (by assumption))))
    (try clear Ra)
    (try clear Xa)
    have Xa := Ya
    clear Ya
    (try clear Rb)
    (try clear Xb)
    have Xb := Yb
    clear Yb
    (try clear Rz)
    (try clear Xz)
    have Xz := Yz
    clear Yz
    have hB1 : Below w.heap.size w w1 := by (repeat' (first | (with_reducible exact Below.refl _ _) | (with_reducible assumption) | (with_reducible refine Below.alloc ?_ ?_ _) | (with_reducible refine Below.drew ?_) | (with_reducible refine bdN ?_ _) | (with_reducible refine Below.setCell ?_ ?_ _) | (with_reducible refine chn ?_ (by assumption) ?_) | omega | (simp; done) | (simp; omega)))
    clear hb1
    have ca0 := Xa.out.c 0 rfl
    have ca1 := Xa.out.c 1 rfl
    have ca2 := Xa.out.c 2 rfl
    have la := Xa.out.lt
    have cb0 := Xb.out.c 0 rfl
    have cb1 := Xb.out.c 1 rfl
    have cb2 := Xb.out.c 2 rfl
    have lb := Xb.out.lt
    have cz0 := Xz.out.c 0 rfl
    have cz1 := Xz.out.c 1 rfl
    have cz2 := Xz.out.c 2 rfl
    have lz := Xz.out.lt
    have fz := Xz.out.f
    go_wp2_with (fail)
    refine bodyPost_ret (v := .tuple #[.agg #[.int .i64 0, .slice none 0 0, .slice none 0 0], .bool false]) (by first | (simp [results, Try.results53, go_sem, *]; done) | (simp (disch := (first | omega | (simp; done) | (simp; omega))) [results, Try.results53, go_sem, *]; done) | (simp only [results, Try.results53]; go_simp; done)) rfl ⟨rfl, ?_⟩
    (repeat' (first | (with_reducible exact Below.refl _ _) | (with_reducible assumption) | (with_reducible refine Below.alloc ?_ ?_ _) | (with_reducible refine Below.drew ?_) | (with_reducible refine bdN ?_ _) | (with_reducible refine Below.setCell ?_ ?_ _) | (with_reducible refine chn ?_ (by assumption) ?_) | omega | (simp; done) | (simp; omega)))

set_option maxRecDepth 100000 in
set_option maxHeartbeats 4000000 in
theorem cz_s_t {n g h p q c1 c2 d1 d2 : Nat} {xs zs us vs : List PauliV} {w : World} (q1 : 1 ≤ n) (q5 : n ≤ 5) (ht : TOk (n : Int) n n xs zs) (hu : TOk (n : Int) n n us vs) (hA : Rd pauliE w (some ⟨g, 0, none⟩) xs) (hB : Rd pauliE w (some ⟨h, 0, none⟩) zs) (hC : Rd pauliE w (some ⟨p, 0, none⟩) us) (hD : Rd pauliE w (some ⟨q, 0, none⟩) vs) (hn : xs.length = n) (hm : zs.length = n) (hk : us.length = n) (hl : vs.length = n) :
    Calls Try.prog 53 #[tableauV (n : Int) (some ⟨g, 0, none⟩) n c1 (some ⟨h, 0, none⟩) n c2, tableauV (n : Int) (some ⟨p, 0, none⟩) n d1 (some ⟨q, 0, none⟩) n d2] w fun ee w' => ∃ (A1 : Option Addr) (k1 : Nat) (A2 : Option Addr) (k2 : Nat), ee = .returned (.tuple #[tableauV n A1 n k1 A2 n k2, .bool true]) ∧ (Rd pauliE w' A1 (tab n (thF n us vs xs)) ∧ (∀ a, A1 = some a → w.heap.size ≤ a.block)) ∧ (Rd pauliE w' A2 (tab n (thF n us vs zs)) ∧ (∀ a, A2 = some a → w.heap.size ≤ a.block)) ∧ Below w.heap.size w w' := by
  have HT := lay ht
  have HU := lay hu
  obtain ⟨oX, oZ⟩ := TOk_L ((TOk_m q1 q5 hn hm).1 ht) hn hm
  obtain ⟨oU, oV⟩ := TOk_L ((TOk_m q1 q5 hk hl).1 hu) hk hl
  have OX := lay oX
  have OZ := lay oZ
  have OU := lay oU
  have OV := lay oV
  have HA := lay hA
  have HB := lay hB
  have HC := lay hC
  have HD := lay hD
  have hb1 : n ≤ maxLen := by unfold maxLen; omega
  have hb2 := hb1
  have hb3 := hb1
  have hb4 := hb1
  clear ht hu oX oZ oU oV hA hB hC hD
  go_enter Try.func53, Try.ntmps53
  go_wp2_with (fail)
  refine (gvs (t := true) (xs := xs) (zs := zs) ⟨fun _ => HT.out, fun _ => rfl⟩ ?_ ?_ hn hm hb1 hb2).mono ?_
  · exact HA.out.mono (by (repeat' (first | (with_reducible exact Below.refl _ _) | (with_reducible assumption) | (with_reducible refine Below.alloc ?_ ?_ _) | (with_reducible refine Below.drew ?_) | (with_reducible refine bdN ?_ _) | (with_reducible refine Below.setCell ?_ ?_ _) | (with_reducible refine chn ?_ (by assumption) ?_) | omega | (simp; done) | (simp; omega))))
  · exact HB.out.mono (by (repeat' (first | (with_reducible exact Below.refl _ _) | (with_reducible assumption) | (with_reducible refine Below.alloc ?_ ?_ _) | (with_reducible refine Below.drew ?_) | (with_reducible refine bdN ?_ _) | (with_reducible refine Below.setCell ?_ ?_ _) | (with_reducible refine chn ?_ (by assumption) ?_) | omega | (simp; done) | (simp; omega))))
  rintro ee w1 ⟨rfl, hb1⟩
  have hz1 := hb1.size
  (try simp only [World.size_alloc] at hz1)
  have Ya : Hid (Bb w1 (w.heap.size) 67 #[.int .i64 (n : Int), .slice (some ⟨g, 0, none⟩) n c1, .slice (some ⟨h, 0, none⟩) n c2]) := by show Bb _ _ _ _; (repeat' (first | (with_reducible assumption) | (refine Bb.new (by first | (with_reducible rfl) | (simp; done))) | (with_reducible refine Bb.alloc ?_ _) | (with_reducible refine Bb.drew ?_) | (with_reducible refine Bb.drewN ?_ _) | (with_reducible refine Bb.mono ?_ (by assumption)) | (with_reducible refine Bb.far ?_ (by (try simp only [World.size_alloc, World.size_drew]); omega)) | (with_reducible refine Bb.set ?_ rfl) | (with_reducible refine Bb.grown ?_ (by assumption) (by assumption))))
  have Yb : Hid (Bb w1 (w.heap.size + 1) 67 #[.int .i64 (n : Int), .slice (some ⟨p, 0, none⟩) n d1, .slice (some ⟨q, 0, none⟩) n d2]) := by show Bb _ _ _ _; (repeat' (first | (with_reducible assumption) | (refine Bb.new (by first | (with_reducible rfl) | (simp; done))) | (with_reducible refine Bb.alloc ?_ _) | (with_reducible refine Bb.drew ?_) | (with_reducible refine Bb.drewN ?_ _) | (with_reducible refine Bb.mono ?_ (by assumption)) | (with_reducible refine Bb.far ?_ (by (try simp only [World.size_alloc, World.size_drew]); omega)) | (with_reducible refine Bb.set ?_ rfl) | (with_reducible refine Bb.grown ?_ (by assumption) (by assumption))))
  have Yz : Hid (Bb w1 (w.heap.size + 1 + 1) 67 #[.int .i64 0, .slice none 0 0, .slice none 0 0]) := by show Bb _ _ _ _; (repeat' (first | (with_reducible assumption) | (refine Bb.new (by first | (with_reducible rfl) | (simp; done))) | (with_reducible refine Bb.alloc ?_ _) | (with_reducible refine Bb.drew ?_) | (with_reducible refine Bb.drewN ?_ _) | (with_reducible refine Bb.mono ?_ (by assumption)) | (with_reducible refine Bb.far ?_ (by (try simp only [World.size_alloc, World.size_drew]); omega)) | (with_reducible refine Bb.set ?_ rfl) | (with_reducible refine Bb.grown ?_ (by assumption) (by assumption))))
  (try clear Ra)
  (try clear Xa)
  have Xa := Ya
  clear Ya
  (try clear Rb)
  (try clear Xb)
  have Xb := Yb
  clear Yb
  (try clear Rz)
  (try clear Xz)
  have Xz := Yz
  clear Yz
  have hB1 : Below w.heap.size w w1 := by (repeat' (first | (with_reducible exact Below.refl _ _) | (with_reducible assumption) | (with_reducible refine Below.alloc ?_ ?_ _) | (with_reducible refine Below.drew ?_) | (with_reducible refine bdN ?_ _) | (with_reducible refine Below.setCell ?_ ?_ _) | (with_reducible refine chn ?_ (by assumption) ?_) | omega | (simp; done) | (simp; omega)))
  clear hb1
  have ca0 := Xa.out.c 0 rfl
  have ca1 := Xa.out.c 1 rfl
  have ca2 := Xa.out.c 2 rfl
  have la := Xa.out.lt
  have cb0 := Xb.out.c 0 rfl
  have cb1 := Xb.out.c 1 rfl
  have cb2 := Xb.out.c 2 rfl
  have lb := Xb.out.lt
  have cz0 := Xz.out.c 0 rfl
  have cz1 := Xz.out.c 1 rfl
  have cz2 := Xz.out.c 2 rfl
  have lz := Xz.out.lt
  have fz := Xz.out.f
  go_wp2_with (fail)
  refine (gvs (t := true) (xs := us) (zs := vs) ⟨fun _ => HU.out, fun _ => rfl⟩ ?_ ?_ hk hl hb3 hb4).mono ?_
  · exact HC.out.mono (by (repeat' (first | (with_reducible exact Below.refl _ _) | (with_reducible assumption) | (with_reducible refine Below.alloc ?_ ?_ _) | (with_reducible refine Below.drew ?_) | (with_reducible refine bdN ?_ _) | (with_reducible refine Below.setCell ?_ ?_ _) | (with_reducible refine chn ?_ (by assumption) ?_) | omega | (simp; done) | (simp; omega))))
  · exact HD.out.mono (by (repeat' (first | (with_reducible exact Below.refl _ _) | (with_reducible assumption) | (with_reducible refine Below.alloc ?_ ?_ _) | (with_reducible refine Below.drew ?_) | (with_reducible refine bdN ?_ _) | (with_reducible refine Below.setCell ?_ ?_ _) | (with_reducible refine chn ?_ (by assumption) ?_) | omega | (simp; done) | (simp; omega))))
  rintro ee w2 ⟨rfl, hb2⟩
  have hz2 := hb2.size
  (try simp only [World.size_alloc] at hz2)
  clear ca0 ca1 ca2 la cb0 cb1 cb2 lb cz0 cz1 cz2 lz fz
  have Ra := Xa.out
  have Rb := Xb.out
  have Rz := Xz.out
  have Ya : Hid (Bb w2 (w.heap.size) 67 #[.int .i64 (n : Int), .slice (some ⟨g, 0, none⟩) n c1, .slice (some ⟨h, 0, none⟩) n c2]) := by show Bb _ _ _ _; (repeat' (first | (with_reducible assumption) | (refine Bb.new (by first | (with_reducible rfl) | (simp; done))) | (with_reducible refine Bb.alloc ?_ _) | (with_reducible refine Bb.drew ?_) | (with_reducible refine Bb.drewN ?_ _) | (with_reducible refine Bb.mono ?_ (by assumption)) | (with_reducible refine Bb.far ?_ (by (try simp only [World.size_alloc, World.size_drew]); omega)) | (with_reducible refine Bb.set ?_ rfl) | (with_reducible refine Bb.grown ?_ (by assumption) (by assumption))))
  have Yb : Hid (Bb w2 (w.heap.size + 1) 67 #[.int .i64 (n : Int), .slice (some ⟨p, 0, none⟩) n d1, .slice (some ⟨q, 0, none⟩) n d2]) := by show Bb _ _ _ _; (repeat' (first | (with_reducible assumption) | (refine Bb.new (by first | (with_reducible rfl) | (simp; done))) | (with_reducible refine Bb.alloc ?_ _) | (with_reducible refine Bb.drew ?_) | (with_reducible refine Bb.drewN ?_ _) | (with_reducible refine Bb.mono ?_ (by assumption)) | (with_reducible refine Bb.far ?_ (by (try simp only [World.size_alloc, World.size_drew]); omega)) | (with_reducible refine Bb.set ?_ rfl) | (with_reducible refine Bb.grown ?_ (by assumption) (by assumption))))
  have Yz : Hid (Bb w2 (w.heap.size + 1 + 1) 67 #[.int .i64 0, .slice none 0 0, .slice none 0 0]) := by show Bb _ _ _ _; (repeat' (first | (with_reducible assumption) | (refine Bb.new (by first | (with_reducible rfl) | (simp; done))) | (with_reducible refine Bb.alloc ?_ _) | (with_reducible refine Bb.drew ?_) | (with_reducible refine Bb.drewN ?_ _) | (with_reducible refine Bb.mono ?_ (by assumption)) | (with_reducible refine Bb.far ?_ (by (try simp only [World.size_alloc, World.size_drew]); omega)) | (with_reducible refine Bb.set ?_ rfl) | (with_reducible refine Bb.grown ?_ (by assumption) (by assumption))))
  (try clear Ra)
  (try clear Xa)
  have Xa := Ya
  clear Ya
  (try clear Rb)
  (try clear Xb)
  have Xb := Yb
  clear Yb
  (try clear Rz)
  (try clear Xz)
  have Xz := Yz
  clear Yz
  have hB2 : Below w.heap.size w w2 := by (repeat' (first | (with_reducible exact Below.refl _ _) | (with_reducible assumption) | (with_reducible refine Below.alloc ?_ ?_ _) | (with_reducible refine Below.drew ?_) | (with_reducible refine bdN ?_ _) | (with_reducible refine Below.setCell ?_ ?_ _) | (with_reducible refine chn ?_ (by assumption) ?_) | omega | (simp; done) | (simp; omega)))
  clear hb2
  have ca0 := Xa.out.c 0 rfl
  have ca1 := Xa.out.c 1 rfl
  have ca2 := Xa.out.c 2 rfl
  have la := Xa.out.lt
  have cb0 := Xb.out.c 0 rfl
  have cb1 := Xb.out.c 1 rfl
  have cb2 := Xb.out.c 2 rfl
  have lb := Xb.out.lt
  have cz0 := Xz.out.c 0 rfl
  have cz1 := Xz.out.c 1 rfl
  have cz2 := Xz.out.c 2 rfl
  have lz := Xz.out.lt
  have fz := Xz.out.f
  go_wp2_with (fail)
  refine (scomp (xs := xs) (zs := zs) (us := us) (vs := vs) q1 q5 ?_ ?_ ?_ ?_ OX.out OZ.out OU.out OV.out).mono ?_
  · exact HA.out.mono (by (repeat' (first | (with_reducible exact Below.refl _ _) | (with_reducible assumption) | (with_reducible refine Below.alloc ?_ ?_ _) | (with_reducible refine Below.drew ?_) | (with_reducible refine bdN ?_ _) | (with_reducible refine Below.setCell ?_ ?_ _) | (with_reducible refine chn ?_ (by assumption) ?_) | omega | (simp; done) | (simp; omega))))
  · exact HB.out.mono (by (repeat' (first | (with_reducible exact Below.refl _ _) | (with_reducible assumption) | (with_reducible refine Below.alloc ?_ ?_ _) | (with_reducible refine Below.drew ?_) | (with_reducible refine bdN ?_ _) | (with_reducible refine Below.setCell ?_ ?_ _) | (with_reducible refine chn ?_ (by assumption) ?_) | omega | (simp; done) | (simp; omega))))
  · exact HC.out.mono (by (repeat' (first | (with_reducible exact Below.refl _ _) | (with_reducible assumption) | (with_reducible refine Below.alloc ?_ ?_ _) | (with_reducible refine Below.drew ?_) | (with_reducible refine bdN ?_ _) | (with_reducible refine Below.setCell ?_ ?_ _) | (with_reducible refine chn ?_ (by assumption) ?_) | omega | (simp; done) | (simp; omega))))
  · exact HD.out.mono (by (repeat' (first | (with_reducible exact Below.refl _ _) | (with_reducible assumption) | (with_reducible refine Below.alloc ?_ ?_ _) | (with_reducible refine Below.drew ?_) | (with_reducible refine bdN ?_ _) | (with_reducible refine Below.setCell ?_ ?_ _) | (with_reducible refine chn ?_ (by assumption) ?_) | omega | (simp; done) | (simp; omega))))
  rintro ee w3 ⟨vx, vz, rfl, hO, hb3⟩
  have hz3 := hb3.size
  (try simp only [World.size_alloc] at hz3)
  clear ca0 ca1 ca2 la cb0 cb1 cb2 lb cz0 cz1 cz2 lz fz
  have Ra := Xa.out
  have Rb := Xb.out
  have Rz := Xz.out
  have Ya : Hid (Bb w3 (w.heap.size) 67 #[.int .i64 (n : Int), .slice (some ⟨g, 0, none⟩) n c1, .slice (some ⟨h, 0, none⟩) n c2]) := by show Bb _ _ _ _; (repeat' (first | (with_reducible assumption) | (refine Bb.new (by first | (with_reducible rfl) | (simp; done))) | (with_reducible refine Bb.alloc ?_ _) | (with_reducible refine Bb.drew ?_) | (with_reducible refine Bb.drewN ?_ _) | (with_reducible refine Bb.mono ?_ (by assumption)) | (with_reducible refine Bb.far ?_ (by (try simp only [World.size_alloc, World.size_drew]); omega)) | (with_reducible refine Bb.set ?_ rfl) | (with_reducible refine Bb.grown ?_ (by assumption) (by assumption))))
  have Yb : Hid (Bb w3 (w.heap.size + 1) 67 #[.int .i64 (n : Int), .slice (some ⟨p, 0, none⟩) n d1, .slice (some ⟨q, 0, none⟩) n d2]) := by show Bb _ _ _ _; (repeat' (first | (with_reducible assumption) | (refine Bb.new (by first | (with_reducible rfl) | (simp; done))) | (with_reducible refine Bb.alloc ?_ _) | (with_reducible refine Bb.drew ?_) | (with_reducible refine Bb.drewN ?_ _) | (with_reducible refine Bb.mono ?_ (by assumption)) | (with_reducible refine Bb.far ?_ (by (try simp only [World.size_alloc, World.size_drew]); omega)) | (with_reducible refine Bb.set ?_ rfl) | (with_reducible refine Bb.grown ?_ (by assumption) (by assumption))))
  have Yz : Hid (Bb w3 (w.heap.size + 1 + 1) 67 #[.int .i64 0, .slice none 0 0, .slice none 0 0]) := by show Bb _ _ _ _; (repeat' (first | (with_reducible assumption) | (refine Bb.new (by first | (with_reducible rfl) | (simp; done))) | (with_reducible refine Bb.alloc ?_ _) | (with_reducible refine Bb.drew ?_) | (with_reducible refine Bb.drewN ?_ _) | (with_reducible refine Bb.mono ?_ (by assumption)) | (with_reducible refine Bb.far ?_ (by (try simp only [World.size_alloc, World.size_drew]); omega)) | (with_reducible refine Bb.set ?_ rfl) | (with_reducible refine Bb.grown ?_ (by assumption) (by assumption))))
  (try clear Ra)
  (try clear Xa)
  have Xa := Ya
  clear Ya
  (try clear Rb)
  (try clear Xb)
  have Xb := Yb
  clear Yb
  (try clear Rz)
  (try clear Xz)
  have Xz := Yz
  clear Yz
  have hB3 : Below w.heap.size w w3 := by (repeat' (first | (with_reducible exact Below.refl _ _) | (with_reducible assumption) | (with_reducible refine Below.alloc ?_ ?_ _) | (with_reducible refine Below.drew ?_) | (with_reducible refine bdN ?_ _) | (with_reducible refine Below.setCell ?_ ?_ _) | (with_reducible refine chn ?_ (by assumption) ?_) | omega | (simp; done) | (simp; omega)))
  clear hb3
  have ca0 := Xa.out.c 0 rfl
  have ca1 := Xa.out.c 1 rfl
  have ca2 := Xa.out.c 2 rfl
  have la := Xa.out.lt
  have cb0 := Xb.out.c 0 rfl
  have cb1 := Xb.out.c 1 rfl
  have cb2 := Xb.out.c 2 rfl
  have lb := Xb.out.lt
  have cz0 := Xz.out.c 0 rfl
  have cz1 := Xz.out.c 1 rfl
  have cz2 := Xz.out.c 2 rfl
  have lz := Xz.out.lt
  have fz := Xz.out.f

  obtain ⟨A1, k1, A2, k2, rfl, rfl, ⟨r1, l1⟩, r2, l2⟩ := hO.rd
  rw [tab_len, tab_len]
  (try simp only [World.size_alloc] at l1 l2)
  have R1 := lay r1
  have R2 := lay r2
  have L1 := lay l1
  have L2 := lay l2
  clear hO r1 r2 l1 l2
  go_wp2_with (fail)
  refine bodyPost_ret (v := .tuple #[tableauV n A1 n k1 A2 n k2, .bool true]) (by first | (simp [results, Try.results53, go_sem, *]; done) | (simp (disch := (first | omega | (simp; done) | (simp; omega))) [results, Try.results53, go_sem, *]; done) | (simp only [results, Try.results53]; go_simp; done)) rfl ⟨_, _, _, _, rfl, ⟨?_, ?_⟩, ⟨?_, ?_⟩, ?_⟩
  · exact (((R1.out.far (fun a ha => by have := (L1.out a ha).1; show a.block ≠ w.heap.size + 1 + 1; omega) _).far (fun a ha => by have := (L1.out a ha).1; show a.block ≠ w.heap.size + 1 + 1; omega) _).far (fun a ha => by have := (L1.out a ha).1; show a.block ≠ w.heap.size + 1 + 1; omega) _)
  · intro a ha; have := (L1.out a ha).1; omega
  · exact (((R2.out.far (fun a ha => by have := (L2.out a ha).1; show a.block ≠ w.heap.size + 1 + 1; omega) _).far (fun a ha => by have := (L2.out a ha).1; show a.block ≠ w.heap.size + 1 + 1; omega) _).far (fun a ha => by have := (L2.out a ha).1; show a.block ≠ w.heap.size + 1 + 1; omega) _)
  · intro a ha; have := (L2.out a ha).1; omega
  · (repeat' (first | (with_reducible exact Below.refl _ _) | (with_reducible assumption) | (with_reducible refine Below.alloc ?_ ?_ _) | (with_reducible refine Below.drew ?_) | (with_reducible refine bdN ?_ _) | (with_reducible refine Below.setCell ?_ ?_ _) | (with_reducible refine chn ?_ (by assumption) ?_) | omega | (simp; done) | (simp; omega)))

set_option maxRecDepth 100000 in
set_option maxHeartbeats 4000000 in
theorem cz_i_t {n g h p q c1 c2 d1 d2 : Nat} {xs zs us vs : List PauliV} {w : World} (q1 : 1 ≤ n) (q5 : n ≤ 5) (ht : TOk (n : Int) n n xs zs) (hu : TOk (n : Int) n n us vs) (hA : Rd pauliE w (some ⟨g, 0, none⟩) xs) (hB : Rd pauliE w (some ⟨h, 0, none⟩) zs) (hC : Rd pauliE w (some ⟨p, 0, none⟩) us) (hD : Rd pauliE w (some ⟨q, 0, none⟩) vs) (hn : xs.length = n) (hm : zs.length = n) (hk : us.length = n) (hl : vs.length = n) :
    Calls Try.prog 54 #[tableauV (n : Int) (some ⟨g, 0, none⟩) n c1 (some ⟨h, 0, none⟩) n c2, tableauV (n : Int) (some ⟨p, 0, none⟩) n d1 (some ⟨q, 0, none⟩) n d2] w fun ee w' => ∃ (A1 : Option Addr) (k1 : Nat) (A2 : Option Addr) (k2 : Nat), ee = .returned (.tuple #[tableauV n A1 n k1 A2 n k2, .bool true]) ∧ Ow pauliE w' w.heap.size 45 A1 (tab n (thF n us vs xs)) ∧ Ow pauliE w' w.heap.size 45 A2 (tab n (thF n us vs zs)) ∧ (∀ r, blk A1 = some r → blk A2 ≠ some r) ∧ Below w.heap.size w w' := by
  have HT := lay ht
  have HU := lay hu
  obtain ⟨oX, oZ⟩ := TOk_L ((TOk_m q1 q5 hn hm).1 ht) hn hm
  obtain ⟨oU, oV⟩ := TOk_L ((TOk_m q1 q5 hk hl).1 hu) hk hl
  have OX := lay oX
  have OZ := lay oZ
  have OU := lay oU
  have OV := lay oV
  have HA := lay hA
  have HB := lay hB
  have HC := lay hC
  have HD := lay hD
  have hb1 : n ≤ maxLen := by unfold maxLen; omega
  have hb2 := hb1
  have hb3 := hb1
  have hb4 := hb1
  clear ht hu oX oZ oU oV hA hB hC hD
  go_enter Try.func54, Try.ntmps54
  go_wp2_with (fail)
  refine (ivt_i (t := true) (xs := xs) (zs := zs) ⟨fun _ => HT.out, fun _ => rfl⟩ ?_ ?_ hn hm hb1 hb2).mono ?_
  · exact HA.out.mono (by (repeat' (first | (with_reducible exact Below.refl _ _) | (with_reducible assumption) | (with_reducible refine Below.alloc ?_ ?_ _) | (with_reducible refine Below.drew ?_) | (with_reducible refine bdN ?_ _) | (with_reducible refine Below.setCell ?_ ?_ _) | (with_reducible refine chn ?_ (by assumption) ?_) | omega | (simp; done) | (simp; omega))))
  · exact HB.out.mono (by (repeat' (first | (with_reducible exact Below.refl _ _) | (with_reducible assumption) | (with_reducible refine Below.alloc ?_ ?_ _) | (with_reducible refine Below.drew ?_) | (with_reducible refine bdN ?_ _) | (with_reducible refine Below.setCell ?_ ?_ _) | (with_reducible refine chn ?_ (by assumption) ?_) | omega | (simp; done) | (simp; omega))))
  rintro ee w1 ⟨rfl, hb1⟩
  have hz1 := hb1.size
  (try simp only [World.size_alloc] at hz1)
  have Ya : Hid (Bb w1 (w.heap.size) 67 #[.int .i64 (n : Int), .slice (some ⟨g, 0, none⟩) n c1, .slice (some ⟨h, 0, none⟩) n c2]) := by show Bb _ _ _ _; (repeat' (first | (with_reducible assumption) | (refine Bb.new (by first | (with_reducible rfl) | (simp; done))) | (with_reducible refine Bb.alloc ?_ _) | (with_reducible refine Bb.drew ?_) | (with_reducible refine Bb.drewN ?_ _) | (with_reducible refine Bb.mono ?_ (by assumption)) | (with_reducible refine Bb.far ?_ (by (try simp only [World.size_alloc, World.size_drew]); omega)) | (with_reducible refine Bb.set ?_ rfl) | (with_reducible refine Bb.grown ?_ (by assumption) (by assumption))))
  have Yb : Hid (Bb w1 (w.heap.size + 1) 67 #[.int .i64 (n : Int), .slice (some ⟨p, 0, none⟩) n d1, .slice (some ⟨q, 0, none⟩) n d2]) := by show Bb _ _ _ _; (repeat' (first | (with_reducible assumption) | (refine Bb.new (by first | (with_reducible rfl) | (simp; done))) | (with_reducible refine Bb.alloc ?_ _) | (with_reducible refine Bb.drew ?_) | (with_reducible refine Bb.drewN ?_ _) | (with_reducible refine Bb.mono ?_ (by assumption)) | (with_reducible refine Bb.far ?_ (by (try simp only [World.size_alloc, World.size_drew]); omega)) | (with_reducible refine Bb.set ?_ rfl) | (with_reducible refine Bb.grown ?_ (by assumption) (by assumption))))
  have Yz : Hid (Bb w1 (w.heap.size + 1 + 1) 67 #[.int .i64 0, .slice none 0 0, .slice none 0 0]) := by show Bb _ _ _ _; (repeat' (first | (with_reducible assumption) | (refine Bb.new (by first | (with_reducible rfl) | (simp; done))) | (with_reducible refine Bb.alloc ?_ _) | (with_reducible refine Bb.drew ?_) | (with_reducible refine Bb.drewN ?_ _) | (with_reducible refine Bb.mono ?_ (by assumption)) | (with_reducible refine Bb.far ?_ (by (try simp only [World.size_alloc, World.size_drew]); omega)) | (with_reducible refine Bb.set ?_ rfl) | (with_reducible refine Bb.grown ?_ (by assumption) (by assumption))))
  (try clear Ra)
  (try clear Xa)
  have Xa := Ya
  clear Ya
  (try clear Rb)
  (try clear Xb)
  have Xb := Yb
  clear Yb
  (try clear Rz)
  (try clear Xz)
  have Xz := Yz
  clear Yz
  have hB1 : Below w.heap.size w w1 := by (repeat' (first | (with_reducible exact Below.refl _ _) | (with_reducible assumption) | (with_reducible refine Below.alloc ?_ ?_ _) | (with_reducible refine Below.drew ?_) | (with_reducible refine bdN ?_ _) | (with_reducible refine Below.setCell ?_ ?_ _) | (with_reducible refine chn ?_ (by assumption) ?_) | omega | (simp; done) | (simp; omega)))
  clear hb1
  have ca0 := Xa.out.c 0 rfl
  have ca1 := Xa.out.c 1 rfl
  have ca2 := Xa.out.c 2 rfl
  have la := Xa.out.lt
  have cb0 := Xb.out.c 0 rfl
  have cb1 := Xb.out.c 1 rfl
  have cb2 := Xb.out.c 2 rfl
  have lb := Xb.out.lt
  have cz0 := Xz.out.c 0 rfl
  have cz1 := Xz.out.c 1 rfl
  have cz2 := Xz.out.c 2 rfl
  have lz := Xz.out.lt
  have fz := Xz.out.f
  go_wp2_with (fail)
  refine (ivt_i (t := true) (xs := us) (zs := vs) ⟨fun _ => HU.out, fun _ => rfl⟩ ?_ ?_ hk hl hb3 hb4).mono ?_
  · exact HC.out.mono (by (repeat' (first | (with_reducible exact Below.refl _ _) | (with_reducible assumption) | (with_reducible refine Below.alloc ?_ ?_ _) | (with_reducible refine Below.drew ?_) | (with_reducible refine bdN ?_ _) | (with_reducible refine Below.setCell ?_ ?_ _) | (with_reducible refine chn ?_ (by assumption) ?_) | omega | (simp; done) | (simp; omega))))
  · exact HD.out.mono (by (repeat' (first | (with_reducible exact Below.refl _ _) | (with_reducible assumption) | (with_reducible refine Below.alloc ?_ ?_ _) | (with_reducible refine Below.drew ?_) | (with_reducible refine bdN ?_ _) | (with_reducible refine Below.setCell ?_ ?_ _) | (with_reducible refine chn ?_ (by assumption) ?_) | omega | (simp; done) | (simp; omega))))
  rintro ee w2 ⟨rfl, hb2⟩
  have hz2 := hb2.size
  (try simp only [World.size_alloc] at hz2)
  clear ca0 ca1 ca2 la cb0 cb1 cb2 lb cz0 cz1 cz2 lz fz
  have Ra := Xa.out
  have Rb := Xb.out
  have Rz := Xz.out
  have Ya : Hid (Bb w2 (w.heap.size) 67 #[.int .i64 (n : Int), .slice (some ⟨g, 0, none⟩) n c1, .slice (some ⟨h, 0, none⟩) n c2]) := by show Bb _ _ _ _; (repeat' (first | (with_reducible assumption) | (refine Bb.new (by first | (with_reducible rfl) | (simp; done))) | (with_reducible refine Bb.alloc ?_ _) | (with_reducible refine Bb.drew ?_) | (with_reducible refine Bb.drewN ?_ _) | (with_reducible refine Bb.mono ?_ (by assumption)) | (with_reducible refine Bb.far ?_ (by (try simp only [World.size_alloc, World.size_drew]); omega)) | (with_reducible refine Bb.set ?_ rfl) | (with_reducible refine Bb.grown ?_ (by assumption) (by assumption))))
  have Yb : Hid (Bb w2 (w.heap.size + 1) 67 #[.int .i64 (n : Int), .slice (some ⟨p, 0, none⟩) n d1, .slice (some ⟨q, 0, none⟩) n d2]) := by show Bb _ _ _ _; (repeat' (first | (with_reducible assumption) | (refine Bb.new (by first | (with_reducible rfl) | (simp; done))) | (with_reducible refine Bb.alloc ?_ _) | (with_reducible refine Bb.drew ?_) | (with_reducible refine Bb.drewN ?_ _) | (with_reducible refine Bb.mono ?_ (by assumption)) | (with_reducible refine Bb.far ?_ (by (try simp only [World.size_alloc, World.size_drew]); omega)) | (with_reducible refine Bb.set ?_ rfl) | (with_reducible refine Bb.grown ?_ (by assumption) (by assumption))))
  have Yz : Hid (Bb w2 (w.heap.size + 1 + 1) 67 #[.int .i64 0, .slice none 0 0, .slice none 0 0]) := by show Bb _ _ _ _; (repeat' (first | (with_reducible assumption) | (refine Bb.new (by first | (with_reducible rfl) | (simp; done))) | (with_reducible refine Bb.alloc ?_ _) | (with_reducible refine Bb.drew ?_) | (with_reducible refine Bb.drewN ?_ _) | (with_reducible refine Bb.mono ?_ (by assumption)) | (with_reducible refine Bb.far ?_ (by (try simp only [World.size_alloc, World.size_drew]); omega)) | (with_reducible refine Bb.set ?_ rfl) | (with_reducible refine Bb.grown ?_ (by assumption) (by assumption))))
  (try clear Ra)
  (try clear Xa)
  have Xa := Ya
  clear Ya
  (try clear Rb)
  (try clear Xb)
  have Xb := Yb
  clear Yb
  (try clear Rz)
  (try clear Xz)
  have Xz := Yz
  clear Yz
  have hB2 : Below w.heap.size w w2 := by (repeat' (first | (with_reducible exact Below.refl _ _) | (with_reducible assumption) | (with_reducible refine Below.alloc ?_ ?_ _) | (with_reducible refine Below.drew ?_) | (with_reducible refine bdN ?_ _) | (with_reducible refine Below.setCell ?_ ?_ _) | (with_reducible refine chn ?_ (by assumption) ?_) | omega | (simp; done) | (simp; omega)))
  clear hb2
  have ca0 := Xa.out.c 0 rfl
  have ca1 := Xa.out.c 1 rfl
  have ca2 := Xa.out.c 2 rfl
  have la := Xa.out.lt
  have cb0 := Xb.out.c 0 rfl
  have cb1 := Xb.out.c 1 rfl
  have cb2 := Xb.out.c 2 rfl
  have lb := Xb.out.lt
  have cz0 := Xz.out.c 0 rfl
  have cz1 := Xz.out.c 1 rfl
  have cz2 := Xz.out.c 2 rfl
  have lz := Xz.out.lt
  have fz := Xz.out.f
  go_wp2_with (fail)
  have yca0 : w2.drew.cell? ⟨w.heap.size, 0, none⟩ = some (.int .i64 (n : Int)) := ca0
  have yca1 : w2.drew.cell? ⟨w.heap.size, 1, none⟩ = some (.slice (some ⟨g, 0, none⟩) n c1) := ca1
  have yca2 : w2.drew.cell? ⟨w.heap.size, 2, none⟩ = some (.slice (some ⟨h, 0, none⟩) n c2) := ca2
  have ycb0 : w2.drew.cell? ⟨w.heap.size + 1, 0, none⟩ = some (.int .i64 (n : Int)) := cb0
  have ycb1 : w2.drew.cell? ⟨w.heap.size + 1, 1, none⟩ = some (.slice (some ⟨p, 0, none⟩) n d1) := cb1
  have ycb2 : w2.drew.cell? ⟨w.heap.size + 1, 2, none⟩ = some (.slice (some ⟨q, 0, none⟩) n d2) := cb2
  refine wp_region_x (fun w' => w'.cell? ⟨w.heap.size, 0, none⟩ = some (.int .i64 (n : Int)) ∧ w'.cell? ⟨w.heap.size, 1, none⟩ = some (.slice (some ⟨g, 0, none⟩) n c1) ∧ w'.cell? ⟨w.heap.size, 2, none⟩ = some (.slice (some ⟨h, 0, none⟩) n c2) ∧ w'.cell? ⟨w.heap.size + 1, 0, none⟩ = some (.int .i64 (n : Int)) ∧ w'.cell? ⟨w.heap.size + 1, 1, none⟩ = some (.slice (some ⟨p, 0, none⟩) n d1) ∧ w'.cell? ⟨w.heap.size + 1, 2, none⟩ = some (.slice (some ⟨q, 0, none⟩) n d2)) 1000 (by kernel_rfl) ⟨yca0, yca1, yca2, ycb0, ycb1, ycb2⟩ (fun hS0 => ?_)
  refine wpAnyX_take (i := 1) (oi := _) (v := ?_) rfl (by kernel_rfl) (by kernel_rfl) (by kernel_rfl) (by kernel_rfl) (fun _ _ _ h => h) (Or.inl ⟨by rfl, ?_⟩) hS0 ?_
  rotate_left 1
  · (intro w hSw; (try dsimp only at hSw); go_simp; (try with_reducible rfl))
  try simp only [Act.put, List.setIfInBounds_toArray, List.set_cons_zero, List.set_cons_succ]
  refine wpAnyX_take (i := 2) (oi := _) (v := ?_) rfl (by kernel_rfl) (by kernel_rfl) (by kernel_rfl) (by kernel_rfl) (fun _ _ _ h => h) (Or.inl ⟨by rfl, ?_⟩) hS0 ?_
  rotate_left 1
  · (intro w hSw; (try dsimp only at hSw); go_simp; (try with_reducible rfl))
  try simp only [Act.put, List.setIfInBounds_toArray, List.set_cons_zero, List.set_cons_succ]
  refine wpAnyX_one (i := 0) (o := _) rfl (by kernel_rfl) (fun K hK => ?_)
  go_simp
  refine (nlp _).mono ?_
  rintro ee w8 ⟨r, rfl, hP8, hr8, hb8⟩
  have k8 : Below w2.heap.size w2 w8 := ⟨hb8.os, hb8.tape, hb8.output, hb8.size, hb8.block⟩
  have hB8 : Below w.heap.size w w8 := chn hB2 k8 hB2.size
  have hz8 := k8.size
  refine hK.out _ _ (fun _ => ?_) (fun hS1 => ?_)
  · exact ⟨kcl hb8 (hS0.1), kcl hb8 (hS0.2.1), kcl hb8 (hS0.2.2.1), kcl hb8 (hS0.2.2.2.1), kcl hb8 (hS0.2.2.2.2.1), kcl hb8 (hS0.2.2.2.2.2)⟩
  clear hK K
  have hS1 := hS1 (by decide)
  try simp only [Act.put, List.setIfInBounds_toArray, List.set_cons_zero, List.set_cons_succ]
  refine wpAnyX_one (i := 3) (o := _) rfl (by kernel_rfl) (fun K hK => ?_)
  go_simp
  refine (icomp (xs := xs) (zs := zs) (us := us) (vs := vs) q1 q5 hP8 ?_ ?_ ?_ ?_ OX.out OZ.out OU.out OV.out).mono ?_
  · exact HA.out.mono hB8
  · exact HB.out.mono hB8
  · exact HC.out.mono hB8
  · exact HD.out.mono hB8
  rintro ee w9 ⟨gx, gz, rfl, hK1, hK2, l1, l2, hne, hb9⟩
  refine hK.out _ _ (fun _ => ?_) (fun hS2 => ?_)
  · exact ⟨kcl hb9 (hS1.1), kcl hb9 (hS1.2.1), kcl hb9 (hS1.2.2.1), kcl hb9 (hS1.2.2.2.1), kcl hb9 (hS1.2.2.2.2.1), kcl hb9 (hS1.2.2.2.2.2)⟩
  clear hK K
  have hS2 := hS2 (by decide)
  try simp only [Act.put, List.setIfInBounds_toArray, List.set_cons_zero, List.set_cons_succ]
  refine wpAnyX_one (i := 4) (o := _) rfl (by kernel_rfl) (fun K hK => ?_)
  have hW8 : Below w2.heap.size w2 w9 := chn k8 hb9 k8.size
  have xz9 := Xz.out.mono hW8
  have fz8 := xz9.f
  have cz90 := xz9.c 0 rfl
  have cz91 := xz9.c 1 rfl
  have cz92 := xz9.c 2 rfl
  go_simp
  refine hK.out _ _ (fun _ => ?_) (fun hS3 => ?_)
  · exact ⟨kclS3 (by omega) (hS2.1), kclS3 (by omega) (hS2.2.1), kclS3 (by omega) (hS2.2.2.1), kclS3 (by omega) (hS2.2.2.2.1), kclS3 (by omega) (hS2.2.2.2.2.1), kclS3 (by omega) (hS2.2.2.2.2.2)⟩
  clear hK K
  have hS3 := hS3 (by decide)
  try simp only [Act.put, List.setIfInBounds_toArray, List.set_cons_zero, List.set_cons_succ]
  refine wpAnyX_take (i := 5) (oi := _) (v := ?_) rfl (by kernel_rfl) (by kernel_rfl) (by kernel_rfl) (by kernel_rfl) (fun _ _ _ h => h) (Or.inl ⟨by rfl, ?_⟩) hS3 ?_
  rotate_left 1
  · (intro w hSw; (try dsimp only at hSw); go_simp; (try with_reducible rfl))
  change wpAnyX _ _ _ _ _ _ _ _ (Act.put _ (some 5) _) _
  try simp only [Act.put, List.setIfInBounds_toArray, List.set_cons_zero, List.set_cons_succ]
  refine wpAnyX_done (by kernel_rfl) ?_ _
  have R1 := lay hK1
  have R2 := lay hK2
  clear hK1 hK2
  go_wp2_with (fail)
  refine bodyPost_ret (v := .tuple #[tableauV n (some ⟨gx, 0, none⟩) n n (some ⟨gz, 0, none⟩) n n, .bool true]) (by first | (simp [results, Try.results54, go_sem, *]; done) | (simp (disch := (first | omega | (simp; done) | (simp; omega))) [results, Try.results54, go_sem, *]; done) | (simp only [results, Try.results54]; go_simp; done)) rfl ⟨_, _, _, _, rfl, ?_, ?_, ?_, ?_⟩
  · exact Bk.ow (((R1.out.far (by show gx ≠ w.heap.size + 1 + 1; omega) _).far (by show gx ≠ w.heap.size + 1 + 1; omega) _).far (by show gx ≠ w.heap.size + 1 + 1; omega) _) (by omega)
  · exact Bk.ow (((R2.out.far (by show gz ≠ w.heap.size + 1 + 1; omega) _).far (by show gz ≠ w.heap.size + 1 + 1; omega) _).far (by show gz ≠ w.heap.size + 1 + 1; omega) _) (by omega)
  · intro r h1 h2; cases h1; cases h2; exact hne rfl
  · have hB9 := chn hB2 hW8 hB2.size
    (repeat' (first | (with_reducible exact Below.refl _ _) | (with_reducible assumption) | (with_reducible refine Below.alloc ?_ ?_ _) | (with_reducible refine Below.drew ?_) | (with_reducible refine bdN ?_ _) | (with_reducible refine Below.setCell ?_ ?_ _) | (with_reducible refine chn ?_ (by assumption) ?_) | omega | (simp; done) | (simp; omega)))

end Go.Proofs.Ytgcligmpdlffoaa.C4
