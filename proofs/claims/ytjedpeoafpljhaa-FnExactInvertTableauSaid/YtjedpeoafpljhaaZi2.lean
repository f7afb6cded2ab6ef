/- E8A, LwInvertTableau -/
import Derived.Test.YtjedpeoafpljhaaE8z
import Derived.Test.YtjedpeoafpljhaaPit
import Derived.Deep.RegionHeld3
import Derived.Deep.DeepCutAuto
namespace Go.Proofs.Ytjedpeoafpljhaa.C4
open Go.RowKit
set_option linter.unusedVariables false
set_option linter.unusedSimpArgs false
attribute [local irreducible] World.setCell

open GM
set_option maxRecDepth 100000 in
set_option maxHeartbeats 4000000 in
theorem inv_i_f {a0 : Int} {g h n1 n2 c1 c2 : Nat} {xs zs : List PauliV} {w : World} (hf : ¬ TOk a0 n1 n2 xs zs) (hA : Rd pauliE w (some ⟨g, 0, none⟩) xs) (hB : Rd pauliE w (some ⟨h, 0, none⟩) zs) (hn : xs.length = n1) (hm : zs.length = n2) (hb1 : n1 ≤ maxLen) (hb2 : n2 ≤ maxLen) :
    Calls Try.prog 41 #[tableauV a0 (some ⟨g, 0, none⟩) n1 c1 (some ⟨h, 0, none⟩) n2 c2] w fun ee w' => ee = .returned (.tuple #[tableauV 0 none 0 0 none 0 0, .bool false]) ∧ Below w.heap.size w w' := by
  have HA := lay hA
  have HB := lay hB
  have HT := lay hf
  clear hA hB hf
  go_enter Try.func41, Try.ntmps41
  go_wp2_with (fail)
  refine (ivt_i (t := false) (xs := xs) (zs := zs) ⟨fun h => (by cases h), fun h => absurd h HT.out⟩ ?_ ?_ hn hm hb1 hb2).mono ?_
  · exact HA.out.mono (by (repeat' (first | (with_reducible exact Below.refl _ _) | (with_reducible assumption) | (with_reducible refine Below.alloc ?_ ?_ _) | (with_reducible refine Below.drew ?_) | (with_reducible refine bdN ?_ _) | (with_reducible refine Below.setCell ?_ ?_ _) | (with_reducible refine chn ?_ (by assumption) ?_) | omega | (simp; done) | (simp; omega))))
  · exact HB.out.mono (by (repeat' (first | (with_reducible exact Below.refl _ _) | (with_reducible assumption) | (with_reducible refine Below.alloc ?_ ?_ _) | (with_reducible refine Below.drew ?_) | (with_reducible refine bdN ?_ _) | (with_reducible refine Below.setCell ?_ ?_ _) | (with_reducible refine chn ?_ (by assumption) ?_) | omega | (simp; done) | (simp; omega))))
  rintro ee w1 ⟨rfl, hb1⟩
  have hz1 := hb1.size
  (try simp only [World.size_alloc] at hz1)
  have Yt : Hid (Bb w1 (w.heap.size) 53 #[.int .i64 a0, .slice (some ⟨g, 0, none⟩) n1 c1, .slice (some ⟨h, 0, none⟩) n2 c2]) := by show Bb _ _ _ _; (repeat' (first | (with_reducible assumption) | (refine Bb.new (by first | (with_reducible rfl) | (simp; done))) | (with_reducible refine Bb.alloc ?_ _) | (with_reducible refine Bb.drew ?_) | (with_reducible refine Bb.drewN ?_ _) | (with_reducible refine Bb.mono ?_ (by assumption)) | (with_reducible refine Bb.far ?_ (by (try simp only [World.size_alloc, World.size_drew]); omega)) | (with_reducible refine Bb.set ?_ rfl) | (with_reducible refine Bb.grown ?_ (by assumption) (by assumption))))
  have Yz : Hid (Bb w1 (w.heap.size + 1) 53 #[.int .i64 0, .slice none 0 0, .slice none 0 0]) := by show Bb _ _ _ _; (repeat' (first | (with_reducible assumption) | (refine Bb.new (by first | (with_reducible rfl) | (simp; done))) | (with_reducible refine Bb.alloc ?_ _) | (with_reducible refine Bb.drew ?_) | (with_reducible refine Bb.drewN ?_ _) | (with_reducible refine Bb.mono ?_ (by assumption)) | (with_reducible refine Bb.far ?_ (by (try simp only [World.size_alloc, World.size_drew]); omega)) | (with_reducible refine Bb.set ?_ rfl) | (with_reducible refine Bb.grown ?_ (by assumption) (by assumption))))
  (try clear Rt)
  (try clear Xt)
  have Xt := Yt
  clear Yt
  (try clear Rz)
  (try clear Xz)
  have Xz := Yz
  clear Yz
  have hB1 : Below w.heap.size w w1 := by (repeat' (first | (with_reducible exact Below.refl _ _) | (with_reducible assumption) | (with_reducible refine Below.alloc ?_ ?_ _) | (with_reducible refine Below.drew ?_) | (with_reducible refine bdN ?_ _) | (with_reducible refine Below.setCell ?_ ?_ _) | (with_reducible refine chn ?_ (by assumption) ?_) | omega | (simp; done) | (simp; omega)))
  clear hb1
  have ct0 := Xt.out.c 0 rfl
  have ct1 := Xt.out.c 1 rfl
  have ct2 := Xt.out.c 2 rfl
  have lt := Xt.out.lt
  have cz0 := Xz.out.c 0 rfl
  have cz1 := Xz.out.c 1 rfl
  have cz2 := Xz.out.c 2 rfl
  have lz := Xz.out.lt
  have fz := Xz.out.f
  go_wp2_with (fail)
  refine bodyPost_ret (v := .tuple #[.agg #[.int .i64 0, .slice none 0 0, .slice none 0 0], .bool false]) (by first | (simp [results, Try.results41, go_sem, *]; done) | (simp (disch := (first | omega | (simp; done) | (simp; omega))) [results, Try.results41, go_sem, *]; done) | (simp only [results, Try.results41]; go_simp; done)) rfl ⟨rfl, ?_⟩
  (repeat' (first | (with_reducible exact Below.refl _ _) | (with_reducible assumption) | (with_reducible refine Below.alloc ?_ ?_ _) | (with_reducible refine Below.drew ?_) | (with_reducible refine bdN ?_ _) | (with_reducible refine Below.setCell ?_ ?_ _) | (with_reducible refine chn ?_ (by assumption) ?_) | omega | (simp; done) | (simp; omega)))

set_option maxRecDepth 100000 in
set_option maxHeartbeats 4000000 in
theorem inv_s_f {a0 : Int} {g h n1 n2 c1 c2 : Nat} {xs zs : List PauliV} {w : World} (hf : ¬ TOk a0 n1 n2 xs zs) (hA : Rd pauliE w (some ⟨g, 0, none⟩) xs) (hB : Rd pauliE w (some ⟨h, 0, none⟩) zs) (hn : xs.length = n1) (hm : zs.length = n2) (hb1 : n1 ≤ maxLen) (hb2 : n2 ≤ maxLen) :
    Calls Try.prog 39 #[tableauV a0 (some ⟨g, 0, none⟩) n1 c1 (some ⟨h, 0, none⟩) n2 c2] w fun ee w' => ee = .returned (.tuple #[tableauV 0 none 0 0 none 0 0, .bool false]) ∧ Below w.heap.size w w' := by
  have HA := lay hA
  have HB := lay hB
  have HT := lay hf
  clear hA hB hf
  go_enter Try.func39, Try.ntmps39
  go_wp2_with (fail)
  refine (gvs (t := false) (xs := xs) (zs := zs) ⟨fun h => (by cases h), fun h => absurd h HT.out⟩ ?_ ?_ hn hm hb1 hb2).mono ?_
  · exact HA.out.mono (by (repeat' (first | (with_reducible exact Below.refl _ _) | (with_reducible assumption) | (with_reducible refine Below.alloc ?_ ?_ _) | (with_reducible refine Below.drew ?_) | (with_reducible refine bdN ?_ _) | (with_reducible refine Below.setCell ?_ ?_ _) | (with_reducible refine chn ?_ (by assumption) ?_) | omega | (simp; done) | (simp; omega))))
  · exact HB.out.mono (by (repeat' (first | (with_reducible exact Below.refl _ _) | (with_reducible assumption) | (with_reducible refine Below.alloc ?_ ?_ _) | (with_reducible refine Below.drew ?_) | (with_reducible refine bdN ?_ _) | (with_reducible refine Below.setCell ?_ ?_ _) | (with_reducible refine chn ?_ (by assumption) ?_) | omega | (simp; done) | (simp; omega))))
  rintro ee w1 ⟨rfl, hb1⟩
  have hz1 := hb1.size
  (try simp only [World.size_alloc] at hz1)
  have Yt : Hid (Bb w1 (w.heap.size) 53 #[.int .i64 a0, .slice (some ⟨g, 0, none⟩) n1 c1, .slice (some ⟨h, 0, none⟩) n2 c2]) := by show Bb _ _ _ _; (repeat' (first | (with_reducible assumption) | (refine Bb.new (by first | (with_reducible rfl) | (simp; done))) | (with_reducible refine Bb.alloc ?_ _) | (with_reducible refine Bb.drew ?_) | (with_reducible refine Bb.drewN ?_ _) | (with_reducible refine Bb.mono ?_ (by assumption)) | (with_reducible refine Bb.far ?_ (by (try simp only [World.size_alloc, World.size_drew]); omega)) | (with_reducible refine Bb.set ?_ rfl) | (with_reducible refine Bb.grown ?_ (by assumption) (by assumption))))
  have Yz : Hid (Bb w1 (w.heap.size + 1) 53 #[.int .i64 0, .slice none 0 0, .slice none 0 0]) := by show Bb _ _ _ _; (repeat' (first | (with_reducible assumption) | (refine Bb.new (by first | (with_reducible rfl) | (simp; done))) | (with_reducible refine Bb.alloc ?_ _) | (with_reducible refine Bb.drew ?_) | (with_reducible refine Bb.drewN ?_ _) | (with_reducible refine Bb.mono ?_ (by assumption)) | (with_reducible refine Bb.far ?_ (by (try simp only [World.size_alloc, World.size_drew]); omega)) | (with_reducible refine Bb.set ?_ rfl) | (with_reducible refine Bb.grown ?_ (by assumption) (by assumption))))
  (try clear Rt)
  (try clear Xt)
  have Xt := Yt
  clear Yt
  (try clear Rz)
  (try clear Xz)
  have Xz := Yz
  clear Yz
  have hB1 : Below w.heap.size w w1 := by (repeat' (first | (with_reducible exact Below.refl _ _) | (with_reducible assumption) | (with_reducible refine Below.alloc ?_ ?_ _) | (with_reducible refine Below.drew ?_) | (with_reducible refine bdN ?_ _) | (with_reducible refine Below.setCell ?_ ?_ _) | (with_reducible refine chn ?_ (by assumption) ?_) | omega | (simp; done) | (simp; omega)))
  clear hb1
  have ct0 := Xt.out.c 0 rfl
  have ct1 := Xt.out.c 1 rfl
  have ct2 := Xt.out.c 2 rfl
  have lt := Xt.out.lt
  have cz0 := Xz.out.c 0 rfl
  have cz1 := Xz.out.c 1 rfl
  have cz2 := Xz.out.c 2 rfl
  have lz := Xz.out.lt
  have fz := Xz.out.f
  go_wp2_with (fail)
  refine bodyPost_ret (v := .tuple #[.agg #[.int .i64 0, .slice none 0 0, .slice none 0 0], .bool false]) (by first | (simp [results, Try.results39, go_sem, *]; done) | (simp (disch := (first | omega | (simp; done) | (simp; omega))) [results, Try.results39, go_sem, *]; done) | (simp only [results, Try.results39]; go_simp; done)) rfl ⟨rfl, ?_⟩
  (repeat' (first | (with_reducible exact Below.refl _ _) | (with_reducible assumption) | (with_reducible refine Below.alloc ?_ ?_ _) | (with_reducible refine Below.drew ?_) | (with_reducible refine bdN ?_ _) | (with_reducible refine Below.setCell ?_ ?_ _) | (with_reducible refine chn ?_ (by assumption) ?_) | omega | (simp; done) | (simp; omega)))

set_option maxRecDepth 100000 in
set_option maxHeartbeats 4000000 in
theorem inv_s_t {n g h c1 c2 : Nat} {xs zs : List PauliV} {w : World} (q1 : 1 ≤ n) (q5 : n ≤ 5) (ht : TOk (n : Int) n n xs zs) (hA : Rd pauliE w (some ⟨g, 0, none⟩) xs) (hB : Rd pauliE w (some ⟨h, 0, none⟩) zs) (hn : xs.length = n) (hm : zs.length = n) :
    Calls Try.prog 39 #[tableauV (n : Int) (some ⟨g, 0, none⟩) n c1 (some ⟨h, 0, none⟩) n c2] w fun ee w' => ∃ (A1 : Option Addr) (k1 : Nat) (A2 : Option Addr) (k2 : Nat), ee = .returned (.tuple #[tableauV n A1 n k1 A2 n k2, .bool true]) ∧ (Rd pauliE w' A1 (tab n (invX n xs zs)) ∧ (∀ a, A1 = some a → w.heap.size ≤ a.block)) ∧ (Rd pauliE w' A2 (tab n (invZ n xs zs)) ∧ (∀ a, A2 = some a → w.heap.size ≤ a.block)) ∧ Below w.heap.size w w' := by
  have hsy := Sym_of ((TOk_m q1 q5 hn hm).1 ht) hn hm
  have HSY := lay hsy
  clear hsy
  have HTT := lay ht
  obtain ⟨oX, oZ⟩ := TOk_L ((TOk_m q1 q5 hn hm).1 ht) hn hm
  have OX := lay oX
  have OZ := lay oZ
  have HA := lay hA
  have HB := lay hB
  have hml : n ≤ maxLen := by unfold maxLen; omega
  clear ht oX oZ hA hB
  go_enter Try.func39, Try.ntmps39
  go_wp2_with (fail)
  refine (gvs (t := true) (xs := xs) (zs := zs) ⟨fun _ => HTT.out, fun _ => rfl⟩ ?_ ?_ hn hm hml hml).mono ?_
  · exact HA.out.mono (by (repeat' (first | (with_reducible exact Below.refl _ _) | (with_reducible assumption) | (with_reducible refine Below.alloc ?_ ?_ _) | (with_reducible refine Below.drew ?_) | (with_reducible refine bdN ?_ _) | (with_reducible refine Below.setCell ?_ ?_ _) | (with_reducible refine chn ?_ (by assumption) ?_) | omega | (simp; done) | (simp; omega))))
  · exact HB.out.mono (by (repeat' (first | (with_reducible exact Below.refl _ _) | (with_reducible assumption) | (with_reducible refine Below.alloc ?_ ?_ _) | (with_reducible refine Below.drew ?_) | (with_reducible refine bdN ?_ _) | (with_reducible refine Below.setCell ?_ ?_ _) | (with_reducible refine chn ?_ (by assumption) ?_) | omega | (simp; done) | (simp; omega))))
  rintro ee w1 ⟨rfl, hb1⟩
  have hz1 := hb1.size
  (try simp only [World.size_alloc] at hz1)
  have Yt : Hid (Bb w1 (w.heap.size) 53 #[.int .i64 (n : Int), .slice (some ⟨g, 0, none⟩) n c1, .slice (some ⟨h, 0, none⟩) n c2]) := by show Bb _ _ _ _; (repeat' (first | (with_reducible assumption) | (refine Bb.new (by first | (with_reducible rfl) | (simp; done))) | (with_reducible refine Bb.alloc ?_ _) | (with_reducible refine Bb.drew ?_) | (with_reducible refine Bb.drewN ?_ _) | (with_reducible refine Bb.mono ?_ (by assumption)) | (with_reducible refine Bb.far ?_ (by (try simp only [World.size_alloc, World.size_drew]); omega)) | (with_reducible refine Bb.set ?_ rfl) | (with_reducible refine Bb.grown ?_ (by assumption) (by assumption))))
  have Yz : Hid (Bb w1 (w.heap.size + 1) 53 #[.int .i64 0, .slice none 0 0, .slice none 0 0]) := by show Bb _ _ _ _; (repeat' (first | (with_reducible assumption) | (refine Bb.new (by first | (with_reducible rfl) | (simp; done))) | (with_reducible refine Bb.alloc ?_ _) | (with_reducible refine Bb.drew ?_) | (with_reducible refine Bb.drewN ?_ _) | (with_reducible refine Bb.mono ?_ (by assumption)) | (with_reducible refine Bb.far ?_ (by (try simp only [World.size_alloc, World.size_drew]); omega)) | (with_reducible refine Bb.set ?_ rfl) | (with_reducible refine Bb.grown ?_ (by assumption) (by assumption))))
  (try clear Rt)
  (try clear Xt)
  have Xt := Yt
  clear Yt
  (try clear Rz)
  (try clear Xz)
  have Xz := Yz
  clear Yz
  have hB1 : Below w.heap.size w w1 := by (repeat' (first | (with_reducible exact Below.refl _ _) | (with_reducible assumption) | (with_reducible refine Below.alloc ?_ ?_ _) | (with_reducible refine Below.drew ?_) | (with_reducible refine bdN ?_ _) | (with_reducible refine Below.setCell ?_ ?_ _) | (with_reducible refine chn ?_ (by assumption) ?_) | omega | (simp; done) | (simp; omega)))
  clear hb1
  have ct0 := Xt.out.c 0 rfl
  have ct1 := Xt.out.c 1 rfl
  have ct2 := Xt.out.c 2 rfl
  have lt := Xt.out.lt
  have cz0 := Xz.out.c 0 rfl
  have cz1 := Xz.out.c 1 rfl
  have cz2 := Xz.out.c 2 rfl
  have lz := Xz.out.lt
  have fz := Xz.out.f
  go_wp2_with (fail)
  refine (l7inv (xs := xs) (zs := zs) q1 q5 HSY.out ?_ ?_ OX.out OZ.out).mono ?_
  · exact HA.out.mono (by (repeat' (first | (with_reducible exact Below.refl _ _) | (with_reducible assumption) | (with_reducible refine Below.alloc ?_ ?_ _) | (with_reducible refine Below.drew ?_) | (with_reducible refine bdN ?_ _) | (with_reducible refine Below.setCell ?_ ?_ _) | (with_reducible refine chn ?_ (by assumption) ?_) | omega | (simp; done) | (simp; omega))))
  · exact HB.out.mono (by (repeat' (first | (with_reducible exact Below.refl _ _) | (with_reducible assumption) | (with_reducible refine Below.alloc ?_ ?_ _) | (with_reducible refine Below.drew ?_) | (with_reducible refine bdN ?_ _) | (with_reducible refine Below.setCell ?_ ?_ _) | (with_reducible refine chn ?_ (by assumption) ?_) | omega | (simp; done) | (simp; omega))))
  rintro ee w2 ⟨vx, vz, rfl, hO, hb2⟩
  have hz2 := hb2.size
  (try simp only [World.size_alloc] at hz2)
  clear ct0 ct1 ct2 lt cz0 cz1 cz2 lz fz
  have Rt := Xt.out
  have Rz := Xz.out
  have Yt : Hid (Bb w2 (w.heap.size) 53 #[.int .i64 (n : Int), .slice (some ⟨g, 0, none⟩) n c1, .slice (some ⟨h, 0, none⟩) n c2]) := by show Bb _ _ _ _; (repeat' (first | (with_reducible assumption) | (refine Bb.new (by first | (with_reducible rfl) | (simp; done))) | (with_reducible refine Bb.alloc ?_ _) | (with_reducible refine Bb.drew ?_) | (with_reducible refine Bb.drewN ?_ _) | (with_reducible refine Bb.mono ?_ (by assumption)) | (with_reducible refine Bb.far ?_ (by (try simp only [World.size_alloc, World.size_drew]); omega)) | (with_reducible refine Bb.set ?_ rfl) | (with_reducible refine Bb.grown ?_ (by assumption) (by assumption))))
  have Yz : Hid (Bb w2 (w.heap.size + 1) 53 #[.int .i64 0, .slice none 0 0, .slice none 0 0]) := by show Bb _ _ _ _; (repeat' (first | (with_reducible assumption) | (refine Bb.new (by first | (with_reducible rfl) | (simp; done))) | (with_reducible refine Bb.alloc ?_ _) | (with_reducible refine Bb.drew ?_) | (with_reducible refine Bb.drewN ?_ _) | (with_reducible refine Bb.mono ?_ (by assumption)) | (with_reducible refine Bb.far ?_ (by (try simp only [World.size_alloc, World.size_drew]); omega)) | (with_reducible refine Bb.set ?_ rfl) | (with_reducible refine Bb.grown ?_ (by assumption) (by assumption))))
  (try clear Rt)
  (try clear Xt)
  have Xt := Yt
  clear Yt
  (try clear Rz)
  (try clear Xz)
  have Xz := Yz
  clear Yz
  have hB2 : Below w.heap.size w w2 := by (repeat' (first | (with_reducible exact Below.refl _ _) | (with_reducible assumption) | (with_reducible refine Below.alloc ?_ ?_ _) | (with_reducible refine Below.drew ?_) | (with_reducible refine bdN ?_ _) | (with_reducible refine Below.setCell ?_ ?_ _) | (with_reducible refine chn ?_ (by assumption) ?_) | omega | (simp; done) | (simp; omega)))
  clear hb2
  have ct0 := Xt.out.c 0 rfl
  have ct1 := Xt.out.c 1 rfl
  have ct2 := Xt.out.c 2 rfl
  have lt := Xt.out.lt
  have cz0 := Xz.out.c 0 rfl
  have cz1 := Xz.out.c 1 rfl
  have cz2 := Xz.out.c 2 rfl
  have lz := Xz.out.lt
  have fz := Xz.out.f
  obtain ⟨A1, k1, A2, k2, rfl, rfl, ⟨r1, l1⟩, r2, l2⟩ := hO.rd
  rw [tab_len, tab_len]
  (try simp only [World.size_alloc] at l1 l2)
  have R1 := lay r1
  have R2 := lay r2
  have L1 := lay l1
  have L2 := lay l2
  clear hO r1 r2 l1 l2
  go_upto_region 3 with (fail)
  (repeat (first | go_values | go_skip | go_guarded | go_step | go_upon))
  refine bodyPost_ret (v := .tuple #[tableauV n A1 n k1 A2 n k2, .bool true]) (by first | (simp [results, Try.results39, go_sem, *]; done) | (simp (disch := (first | omega | (simp; done) | (simp; omega))) [results, Try.results39, go_sem, *]; done) | (simp only [results, Try.results39]; go_simp; done)) rfl ⟨_, _, _, _, rfl, ⟨?_, ?_⟩, ⟨?_, ?_⟩, ?_⟩
  · exact (((R1.out.far (fun a ha => by have := (L1.out a ha).1; show a.block ≠ w.heap.size + 1; omega) _).far (fun a ha => by have := (L1.out a ha).1; show a.block ≠ w.heap.size + 1; omega) _).far (fun a ha => by have := (L1.out a ha).1; show a.block ≠ w.heap.size + 1; omega) _)
  · intro a ha; have := (L1.out a ha).1; omega
  · exact (((R2.out.far (fun a ha => by have := (L2.out a ha).1; show a.block ≠ w.heap.size + 1; omega) _).far (fun a ha => by have := (L2.out a ha).1; show a.block ≠ w.heap.size + 1; omega) _).far (fun a ha => by have := (L2.out a ha).1; show a.block ≠ w.heap.size + 1; omega) _)
  · intro a ha; have := (L2.out a ha).1; omega
  · (repeat' (first | (with_reducible exact Below.refl _ _) | (with_reducible assumption) | (with_reducible refine Below.alloc ?_ ?_ _) | (with_reducible refine Below.drew ?_) | (with_reducible refine bdN ?_ _) | (with_reducible refine Below.setCell ?_ ?_ _) | (with_reducible refine chn ?_ (by assumption) ?_) | omega | (simp; done) | (simp; omega)))

end Go.Proofs.Ytjedpeoafpljhaa.C4
namespace Go.Proofs.Ytjedpeoafpljhaa.C4
open Go.RowKit
set_option linter.unusedVariables false
set_option linter.unusedSimpArgs false
attribute [local irreducible] World.setCell

set_option maxRecDepth 100000 in
set_option maxHeartbeats 4000000 in
theorem bigInvertTableau0 {a0p0 : Int} {A1p0 : Option Addr} {n1p0 c1p0 : Nat} {A2p0 : Option Addr} {n2p0 c2p0 : Nat} {w : World} (hb : 1048576 < (n1p0 : Int) + (n2p0 : Int)) (hmn1p0 : n1p0 ≤ maxLen) (hmn2p0 : n2p0 ≤ maxLen) :
    Calls Try.prog 6 #[(tableauV a0p0 A1p0 n1p0 c1p0 A2p0 n2p0 c2p0)] w fun ee w' => ee = .returned (.bool true) ∧ Below w.heap.size w w' := by
  have hb0 : 1048576 < (n1p0 : Int) + (n2p0 : Int) := by omega
  have hb1 : 1048576 ≤ (1048576 : Int) := by omega
  have hb2 : (0 : Int) ≤ 1048576 := by omega
  go_enter Try.func6, Try.ntmps6
  go_wp2_with (fail)
  refine (szTableau_f hb0 hb1 hb2 hmn1p0 hmn2p0).mono ?_
  rintro ee v ⟨rfl, hv⟩
  go_wp2_with (fail)
  go_ret
  refine ⟨rfl, ?_⟩
  (repeat' (first | (with_reducible exact Below.refl _ _) | (with_reducible assumption) | (with_reducible refine Below.alloc ?_ ?_ _) | (with_reducible refine Below.drew ?_) | (with_reducible refine bdN ?_ _) | (with_reducible refine Below.setCell ?_ ?_ _) | (with_reducible refine chn ?_ (by assumption) ?_) | omega | (simp; done) | (simp; omega)))

set_option maxRecDepth 100000 in
set_option maxHeartbeats 16000000 in
theorem lwInvertTableau {a0p0 : Int} {A1p0 : Option Addr} {n1p0 c1p0 : Nat} {A2p0 : Option Addr} {n2p0 c2p0 : Nat} {xs1p0 : List PauliV} {xs2p0 : List PauliV} {a0q0 : Int} {k1q0 : Nat} {zs1q0 : List PauliV} {k2q0 : Nat} {zs2q0 : List PauliV} {r1 : Bool} {w : World} (hS : ∀ (g1p0 g2p0 : Nat) (w : World), Rd pauliE w (some ⟨g1p0, 0, none⟩) xs1p0 → Rd pauliE w (some ⟨g2p0, 0, none⟩) xs2p0 → Calls Try.prog 39 #[tableauV a0p0 (some ⟨g1p0, 0, none⟩) n1p0 n1p0 (some ⟨g2p0, 0, none⟩) n2p0 n2p0] w fun ee w' => ∃ A1q0 c1q0 A2q0 c2q0, ee = .returned (.tuple #[tableauV a0q0 A1q0 k1q0 c1q0 A2q0 k2q0 c2q0, .bool r1]) ∧ (Rd pauliE w' A1q0 zs1q0 ∧ (∀ a, A1q0 = some a → w.heap.size ≤ a.block)) ∧ (Rd pauliE w' A2q0 zs2q0 ∧ (∀ a, A2q0 = some a → w.heap.size ≤ a.block)) ∧ Below w.heap.size w w') (hI : ∀ (g1p0 g2p0 : Nat) (w : World), Rd pauliE w (some ⟨g1p0, 0, none⟩) xs1p0 → Rd pauliE w (some ⟨g2p0, 0, none⟩) xs2p0 → Calls Try.prog 41 #[tableauV a0p0 (some ⟨g1p0, 0, none⟩) n1p0 n1p0 (some ⟨g2p0, 0, none⟩) n2p0 n2p0] w fun ee w' => ∃ A1q0 c1q0 A2q0 c2q0, ee = .returned (.tuple #[tableauV a0q0 A1q0 k1q0 c1q0 A2q0 k2q0 c2q0, .bool r1]) ∧ Ow pauliE w' w.heap.size 43 A1q0 zs1q0 ∧ Ow pauliE w' w.heap.size 43 A2q0 zs2q0 ∧ (∀ r, blk A1q0 = some r → blk A2q0 ≠ some r) ∧ Below w.heap.size w w') (hz1q0 : zs1q0.length = k1q0) (hk1q0 : k1q0 ≤ 1048576) (hz2q0 : zs2q0.length = k2q0) (hk2q0 : k2q0 ≤ 1048576) (hA1p0 : Rd pauliE w A1p0 xs1p0) (hn1p0 : xs1p0.length = n1p0) (hb1p0 : (n1p0 : Int) ≤ 1048576) (hA2p0 : Rd pauliE w A2p0 xs2p0) (hn2p0 : xs2p0.length = n2p0) (hb2p0 : (n2p0 : Int) ≤ 1048576 - (n1p0 : Int)) :
    Calls Try.prog 6 #[(tableauV a0p0 A1p0 n1p0 c1p0 A2p0 n2p0 c2p0)] w fun ee w' => ee = .returned (.bool true) ∧ Below w.heap.size w w' := by
  have HZ1q0 := lay hz1q0
  have HZ2q0 := lay hz2q0
  have HAA1p0 := lay hA1p0
  have HN1p0 := lay hn1p0
  have HAA2p0 := lay hA2p0
  have HN2p0 := lay hn2p0
  have HS := lay hS
  have HI := lay hI
  have u0 : ¬ (1048576 - (n1p0 : Int) < 0) := by omega
  have v0 : 0 ≤ 1048576 - (n1p0 : Int) := by omega
  have s0 : (n1p0 : Int) ≤ 1048576 := by omega
  have t0 : 1048576 ≤ (1048576 : Int) := by omega
  have bn1p0 : n1p0 ≤ 1048576 := by omega
  have u1 : ¬ (1048576 - (n1p0 : Int) - (n2p0 : Int) < 0) := by omega
  have v1 : 0 ≤ 1048576 - (n1p0 : Int) - (n2p0 : Int) := by omega
  have s1 : (n2p0 : Int) ≤ 1048576 - (n1p0 : Int) := by omega
  have t1 : 1048576 - (n1p0 : Int) ≤ (1048576 : Int) := by omega
  have bn2p0 : n2p0 ≤ 1048576 := by omega
  have um0 : ¬ (1 + 3 * (n1p0 : Int) < 0) := by omega
  have vm0 : 0 ≤ 1 + 3 * (n1p0 : Int) := by omega
  have wm0 : 1 + 3 * (n1p0 : Int) ≤ 100000000 := by omega
  have um1 : ¬ (1 + 3 * (n1p0 : Int) + 3 * (n2p0 : Int) < 0) := by omega
  have vm1 : 0 ≤ 1 + 3 * (n1p0 : Int) + 3 * (n2p0 : Int) := by omega
  have wm1 : 1 + 3 * (n1p0 : Int) + 3 * (n2p0 : Int) ≤ 100000000 := by omega
  have uk1q0 : ¬ (1 + 3 * (k1q0 : Int) < 0) := by omega
  have vk1q0 : 0 ≤ 1 + 3 * (k1q0 : Int) := by omega
  have wk1q0 : 1 + 3 * (k1q0 : Int) ≤ 100000000 := by omega
  have uk2q0 : ¬ (1 + 3 * (k1q0 : Int) + 3 * (k2q0 : Int) < 0) := by omega
  have vk2q0 : 0 ≤ 1 + 3 * (k1q0 : Int) + 3 * (k2q0 : Int) := by omega
  have wk2q0 : 1 + 3 * (k1q0 : Int) + 3 * (k2q0 : Int) ≤ 100000000 := by omega
  clear hS hI hz1q0 hz2q0 hA1p0 hn1p0 hA2p0 hn2p0
  go_enter Try.func6, Try.ntmps6
  go_wp2_with (fail)
  refine (szTableau_t s0 s1 t0).mono ?_
  rintro ee w1 ⟨rfl, hb1⟩
  have hL1 : Below w.heap.size w w1 := by (repeat' (first | (with_reducible exact Below.refl _ _) | (with_reducible assumption) | (with_reducible refine Below.alloc ?_ ?_ _) | (with_reducible refine Below.drew ?_) | (with_reducible refine bdN ?_ _) | (with_reducible refine Below.setCell ?_ ?_ _) | (with_reducible refine chn ?_ (by assumption) ?_) | omega | (simp; done) | (simp; omega)))
  have hz1 := hb1.size
  (try simp only [World.size_alloc] at hz1)
  have hB1 : Below w.heap.size w w1 := hL1
  have k1_0_0 : w1.cell? ⟨w.heap.size, 0, none⟩ = some (.int .i64 a0p0) := (hb1.cell (p := ⟨w.heap.size, 0, none⟩) (by show w.heap.size < _; (try simp only [World.size_alloc]); omega)).trans (by first | rfl | (simp; done) | (simp [*]; done))
  have k1_0_1 : w1.cell? ⟨w.heap.size, 1, none⟩ = some (.slice (A1p0) n1p0 c1p0) := (hb1.cell (p := ⟨w.heap.size, 1, none⟩) (by show w.heap.size < _; (try simp only [World.size_alloc]); omega)).trans (by first | rfl | (simp; done) | (simp [*]; done))
  have k1_0_2 : w1.cell? ⟨w.heap.size, 2, none⟩ = some (.slice (A2p0) n2p0 c2p0) := (hb1.cell (p := ⟨w.heap.size, 2, none⟩) (by show w.heap.size < _; (try simp only [World.size_alloc]); omega)).trans (by first | rfl | (simp; done) | (simp [*]; done))
  have bl1_0 : w.heap.size < w1.heap.size := World.block_lt_of_cell? _ _ k1_0_0
  clear hb1 hL1
  go_wp2_with (fail)
  refine (toTableau ?_ ?_ HN1p0.out bn1p0 HN2p0.out bn2p0).mono ?_
  · exact HAA1p0.out.mono (by (repeat' (first | (with_reducible exact Below.refl _ _) | (with_reducible assumption) | (with_reducible refine Below.alloc ?_ ?_ _) | (with_reducible refine Below.drew ?_) | (with_reducible refine bdN ?_ _) | (with_reducible refine Below.setCell ?_ ?_ _) | (with_reducible refine chn ?_ (by assumption) ?_) | omega | (simp; done) | (simp; omega))))
  · exact HAA2p0.out.mono (by (repeat' (first | (with_reducible exact Below.refl _ _) | (with_reducible assumption) | (with_reducible refine Below.alloc ?_ ?_ _) | (with_reducible refine Below.drew ?_) | (with_reducible refine bdN ?_ _) | (with_reducible refine Below.setCell ?_ ?_ _) | (with_reducible refine chn ?_ (by assumption) ?_) | omega | (simp; done) | (simp; omega))))
  rintro ee w2 ⟨g2_1, g2_2, rfl, hK2_1, hK2_2, hg2_1, hg2_2, hb2⟩
  have hL2 : Below w1.heap.size w1 w2 := by (repeat' (first | (with_reducible exact Below.refl _ _) | (with_reducible assumption) | (with_reducible refine Below.alloc ?_ ?_ _) | (with_reducible refine Below.drew ?_) | (with_reducible refine bdN ?_ _) | (with_reducible refine Below.setCell ?_ ?_ _) | (with_reducible refine chn ?_ (by assumption) ?_) | omega | (simp; done) | (simp; omega)))
  have hz2 := hb2.size
  (try simp only [World.size_alloc] at hz2)
  have hB2 : Below w.heap.size w w2 := chn hB1 hL2 hB1.size
  have k2_0_0 : w2.cell? ⟨w.heap.size, 0, none⟩ = some (.int .i64 a0p0) := (hL2.cell (p := ⟨w.heap.size, 0, none⟩) (by show w.heap.size < w1.heap.size; omega)).trans k1_0_0
  have k2_0_1 : w2.cell? ⟨w.heap.size, 1, none⟩ = some (.slice (A1p0) n1p0 c1p0) := (hL2.cell (p := ⟨w.heap.size, 1, none⟩) (by show w.heap.size < w1.heap.size; omega)).trans k1_0_1
  have k2_0_2 : w2.cell? ⟨w.heap.size, 2, none⟩ = some (.slice (A2p0) n2p0 c2p0) := (hL2.cell (p := ⟨w.heap.size, 2, none⟩) (by show w.heap.size < w1.heap.size; omega)).trans k1_0_2
  have bl2_0 : w.heap.size < w2.heap.size := World.block_lt_of_cell? _ _ k2_0_0
  clear hb2 hL2
  clear k1_0_0 k1_0_1 k1_0_2
  (try simp only [World.size_alloc] at hg2_1)
  have HR02 := lay hK2_1
  clear hK2_1
  have HR12 := lay hK2_2
  clear hK2_2
  go_wp2_with (fail)
  refine (HS.out _ _ _ ?_ ?_).mono ?_
  · exact HR02.out.rd.mono (by (repeat' (first | (with_reducible exact Below.refl _ _) | (with_reducible assumption) | (with_reducible refine Below.alloc ?_ ?_ _) | (with_reducible refine Below.drew ?_) | (with_reducible refine bdN ?_ _) | (with_reducible refine Below.setCell ?_ ?_ _) | (with_reducible refine chn ?_ (by assumption) ?_) | omega | (simp; done) | (simp; omega))))
  · exact HR12.out.rd.mono (by (repeat' (first | (with_reducible exact Below.refl _ _) | (with_reducible assumption) | (with_reducible refine Below.alloc ?_ ?_ _) | (with_reducible refine Below.drew ?_) | (with_reducible refine bdN ?_ _) | (with_reducible refine Below.setCell ?_ ?_ _) | (with_reducible refine chn ?_ (by assumption) ?_) | omega | (simp; done) | (simp; omega))))
  rintro ee w3 ⟨A3_1q0, c3_1q0, A3_2q0, c3_2q0, rfl, hR3_1q0, hR3_2q0, hb3⟩
  have hL3 : Below w2.heap.size w2 w3 := by (repeat' (first | (with_reducible exact Below.refl _ _) | (with_reducible assumption) | (with_reducible refine Below.alloc ?_ ?_ _) | (with_reducible refine Below.drew ?_) | (with_reducible refine bdN ?_ _) | (with_reducible refine Below.setCell ?_ ?_ _) | (with_reducible refine chn ?_ (by assumption) ?_) | omega | (simp; done) | (simp; omega)))
  have hz3 := hb3.size
  (try simp only [World.size_alloc] at hz3)
  have hB3 : Below w.heap.size w w3 := chn hB2 hL3 hB2.size
  have k3_0_0 : w3.cell? ⟨w.heap.size, 0, none⟩ = some (.int .i64 a0p0) := (hL3.cell (p := ⟨w.heap.size, 0, none⟩) (by show w.heap.size < w2.heap.size; omega)).trans k2_0_0
  have k3_0_1 : w3.cell? ⟨w.heap.size, 1, none⟩ = some (.slice (A1p0) n1p0 c1p0) := (hL3.cell (p := ⟨w.heap.size, 1, none⟩) (by show w.heap.size < w2.heap.size; omega)).trans k2_0_1
  have k3_0_2 : w3.cell? ⟨w.heap.size, 2, none⟩ = some (.slice (A2p0) n2p0 c2p0) := (hL3.cell (p := ⟨w.heap.size, 2, none⟩) (by show w.heap.size < w2.heap.size; omega)).trans k2_0_2
  have bl3_0 : w.heap.size < w3.heap.size := World.block_lt_of_cell? _ _ k3_0_0
  have HR03 := lay (HR02.out.mono hL3)
  have HR13 := lay (HR12.out.mono hL3)
  clear hb3 hL3
  clear k2_0_0 k2_0_1 k2_0_2 HR02 HR12
  clear HR03
  clear HR13
  have HW1q03 : Hid (RdB pauliE w3 w3.heap.size A3_1q0 zs1q0) := hR3_1q0.1.b (Nat.le_refl _)
  clear hR3_1q0
  have HW2q03 : Hid (RdB pauliE w3 w3.heap.size A3_2q0 zs2q0) := hR3_2q0.1.b (Nat.le_refl _)
  clear hR3_2q0
  go_wp2_with (fail)
  refine (toTableau ?_ ?_ HN1p0.out bn1p0 HN2p0.out bn2p0).mono ?_
  · exact HAA1p0.out.mono (by (repeat' (first | (with_reducible exact Below.refl _ _) | (with_reducible assumption) | (with_reducible refine Below.alloc ?_ ?_ _) | (with_reducible refine Below.drew ?_) | (with_reducible refine bdN ?_ _) | (with_reducible refine Below.setCell ?_ ?_ _) | (with_reducible refine chn ?_ (by assumption) ?_) | omega | (simp; done) | (simp; omega))))
  · exact HAA2p0.out.mono (by (repeat' (first | (with_reducible exact Below.refl _ _) | (with_reducible assumption) | (with_reducible refine Below.alloc ?_ ?_ _) | (with_reducible refine Below.drew ?_) | (with_reducible refine bdN ?_ _) | (with_reducible refine Below.setCell ?_ ?_ _) | (with_reducible refine chn ?_ (by assumption) ?_) | omega | (simp; done) | (simp; omega))))
  rintro ee w4 ⟨g4_1, g4_2, rfl, hK4_1, hK4_2, hg4_1, hg4_2, hb4⟩
  have hL4 : Below w3.heap.size w3 w4 := by (repeat' (first | (with_reducible exact Below.refl _ _) | (with_reducible assumption) | (with_reducible refine Below.alloc ?_ ?_ _) | (with_reducible refine Below.drew ?_) | (with_reducible refine bdN ?_ _) | (with_reducible refine Below.setCell ?_ ?_ _) | (with_reducible refine chn ?_ (by assumption) ?_) | omega | (simp; done) | (simp; omega)))
  have hz4 := hb4.size
  (try simp only [World.size_alloc] at hz4)
  have hB4 : Below w.heap.size w w4 := chn hB3 hL4 hB3.size
  have k4_0_0 : w4.cell? ⟨w.heap.size, 0, none⟩ = some (.int .i64 a0p0) := (hL4.cell (p := ⟨w.heap.size, 0, none⟩) (by show w.heap.size < w3.heap.size; omega)).trans k3_0_0
  have k4_0_1 : w4.cell? ⟨w.heap.size, 1, none⟩ = some (.slice (A1p0) n1p0 c1p0) := (hL4.cell (p := ⟨w.heap.size, 1, none⟩) (by show w.heap.size < w3.heap.size; omega)).trans k3_0_1
  have k4_0_2 : w4.cell? ⟨w.heap.size, 2, none⟩ = some (.slice (A2p0) n2p0 c2p0) := (hL4.cell (p := ⟨w.heap.size, 2, none⟩) (by show w.heap.size < w3.heap.size; omega)).trans k3_0_2
  have k4_1_0 : w4.cell? ⟨w3.heap.size, 0, none⟩ = some (.int .i64 a0q0) := (hb4.cell (p := ⟨w3.heap.size, 0, none⟩) (by show w3.heap.size < _; (try simp only [World.size_alloc]); omega)).trans (by first | rfl | (simp; done) | (simp [*]; done))
  have k4_1_1 : w4.cell? ⟨w3.heap.size, 1, none⟩ = some (.slice A3_1q0 k1q0 c3_1q0) := (hb4.cell (p := ⟨w3.heap.size, 1, none⟩) (by show w3.heap.size < _; (try simp only [World.size_alloc]); omega)).trans (by first | rfl | (simp; done) | (simp [*]; done))
  have k4_1_2 : w4.cell? ⟨w3.heap.size, 2, none⟩ = some (.slice A3_2q0 k2q0 c3_2q0) := (hb4.cell (p := ⟨w3.heap.size, 2, none⟩) (by show w3.heap.size < _; (try simp only [World.size_alloc]); omega)).trans (by first | rfl | (simp; done) | (simp [*]; done))
  have bl4_0 : w.heap.size < w4.heap.size := World.block_lt_of_cell? _ _ k4_0_0
  have bl4_1 : w3.heap.size < w4.heap.size := World.block_lt_of_cell? _ _ k4_1_0
  have HW1q04 := lay (HW1q03.out.mono hL4)
  have HW2q04 := lay (HW2q03.out.mono hL4)
  clear hb4 hL4
  clear k3_0_0 k3_0_1 k3_0_2 HW1q03 HW2q03
  (try simp only [World.size_alloc] at hg4_1)
  have HX24 : Hid (Ow pauliE w4 (w3.heap.size + 1) 43 (some ⟨g4_1, 0, none⟩) xs1p0) := hK4_1.ow (by omega)
  clear hK4_1
  have hr_X2 := HX24.out.row
  have HX34 : Hid (Ow pauliE w4 (g4_1 + 1) 43 (some ⟨g4_2, 0, none⟩) xs2p0) := hK4_2.ow (by omega)
  clear hK4_2
  have hr_X3 := HX34.out.row
  have hne_X2 : ∀ r, blk (some ⟨g4_1, 0, none⟩) = some r → blk (some ⟨g4_2, 0, none⟩) ≠ some r := fun r h1 h2 => by cases h1; cases h2; omega
  go_wp2_with (fail)
  refine (HI.out _ _ _ ?_ ?_).mono ?_
  · exact HX24.out.rd.mono (by (repeat' (first | (with_reducible exact Below.refl _ _) | (with_reducible assumption) | (with_reducible refine Below.alloc ?_ ?_ _) | (with_reducible refine Below.drew ?_) | (with_reducible refine bdN ?_ _) | (with_reducible refine Below.setCell ?_ ?_ _) | (with_reducible refine chn ?_ (by assumption) ?_) | omega | (simp; done) | (simp; omega))))
  · exact HX34.out.rd.mono (by (repeat' (first | (with_reducible exact Below.refl _ _) | (with_reducible assumption) | (with_reducible refine Below.alloc ?_ ?_ _) | (with_reducible refine Below.drew ?_) | (with_reducible refine bdN ?_ _) | (with_reducible refine Below.setCell ?_ ?_ _) | (with_reducible refine chn ?_ (by assumption) ?_) | omega | (simp; done) | (simp; omega))))
  rintro ee w5 ⟨A5_1q0, c5_1q0, A5_2q0, c5_2q0, rfl, hO5_1q0, hO5_2q0, hNE5, hb5⟩
  have hL5 : Below w4.heap.size w4 w5 := by (repeat' (first | (with_reducible exact Below.refl _ _) | (with_reducible assumption) | (with_reducible refine Below.alloc ?_ ?_ _) | (with_reducible refine Below.drew ?_) | (with_reducible refine bdN ?_ _) | (with_reducible refine Below.setCell ?_ ?_ _) | (with_reducible refine chn ?_ (by assumption) ?_) | omega | (simp; done) | (simp; omega)))
  have hz5 := hb5.size
  (try simp only [World.size_alloc] at hz5)
  have hB5 : Below w.heap.size w w5 := chn hB4 hL5 hB4.size
  have k5_0_0 : w5.cell? ⟨w.heap.size, 0, none⟩ = some (.int .i64 a0p0) := (hL5.cell (p := ⟨w.heap.size, 0, none⟩) (by show w.heap.size < w4.heap.size; omega)).trans k4_0_0
  have k5_0_1 : w5.cell? ⟨w.heap.size, 1, none⟩ = some (.slice (A1p0) n1p0 c1p0) := (hL5.cell (p := ⟨w.heap.size, 1, none⟩) (by show w.heap.size < w4.heap.size; omega)).trans k4_0_1
  have k5_0_2 : w5.cell? ⟨w.heap.size, 2, none⟩ = some (.slice (A2p0) n2p0 c2p0) := (hL5.cell (p := ⟨w.heap.size, 2, none⟩) (by show w.heap.size < w4.heap.size; omega)).trans k4_0_2
  have k5_1_0 : w5.cell? ⟨w3.heap.size, 0, none⟩ = some (.int .i64 a0q0) := (hL5.cell (p := ⟨w3.heap.size, 0, none⟩) (by show w3.heap.size < w4.heap.size; omega)).trans k4_1_0
  have k5_1_1 : w5.cell? ⟨w3.heap.size, 1, none⟩ = some (.slice A3_1q0 k1q0 c3_1q0) := (hL5.cell (p := ⟨w3.heap.size, 1, none⟩) (by show w3.heap.size < w4.heap.size; omega)).trans k4_1_1
  have k5_1_2 : w5.cell? ⟨w3.heap.size, 2, none⟩ = some (.slice A3_2q0 k2q0 c3_2q0) := (hL5.cell (p := ⟨w3.heap.size, 2, none⟩) (by show w3.heap.size < w4.heap.size; omega)).trans k4_1_2
  have k5_2_0 : w5.cell? ⟨w4.heap.size, 0, none⟩ = some (.int .i64 a0p0) := (hb5.cell (p := ⟨w4.heap.size, 0, none⟩) (by show w4.heap.size < _; (try simp only [World.size_alloc]); omega)).trans (by first | rfl | (simp; done) | (simp [*]; done))
  have k5_2_1 : w5.cell? ⟨w4.heap.size, 1, none⟩ = some (.slice (some ⟨g4_1, 0, none⟩) n1p0 n1p0) := (hb5.cell (p := ⟨w4.heap.size, 1, none⟩) (by show w4.heap.size < _; (try simp only [World.size_alloc]); omega)).trans (by first | rfl | (simp; done) | (simp [*]; done))
  have k5_2_2 : w5.cell? ⟨w4.heap.size, 2, none⟩ = some (.slice (some ⟨g4_2, 0, none⟩) n2p0 n2p0) := (hb5.cell (p := ⟨w4.heap.size, 2, none⟩) (by show w4.heap.size < _; (try simp only [World.size_alloc]); omega)).trans (by first | rfl | (simp; done) | (simp [*]; done))
  have bl5_0 : w.heap.size < w5.heap.size := World.block_lt_of_cell? _ _ k5_0_0
  have bl5_1 : w3.heap.size < w5.heap.size := World.block_lt_of_cell? _ _ k5_1_0
  have bl5_2 : w4.heap.size < w5.heap.size := World.block_lt_of_cell? _ _ k5_2_0
  have HW1q05 := lay (HW1q04.out.mono hL5)
  have HW2q05 := lay (HW2q04.out.mono hL5)
  have HX25 := lay (HX24.out.mono hL5)
  have HX35 := lay (HX34.out.mono hL5)
  clear hb5 hL5
  clear k4_0_0 k4_0_1 k4_0_2 k4_1_0 k4_1_1 k4_1_2 HW1q04 HW2q04 HX24 HX34
  (try simp only [World.size_alloc] at hO5_1q0)
  have HG1q05 : Hid (Ow pauliE w5 (w4.heap.size + 1) 43 A5_1q0 zs1q0) := hO5_1q0.dn (by omega)
  clear hO5_1q0
  have hr_G1q0 := HG1q05.out.row
  (try simp only [World.size_alloc] at hO5_2q0)
  have HG2q05 : Hid (Ow pauliE w5 (w4.heap.size + 1) 43 A5_2q0 zs2q0) := hO5_2q0.dn (by omega)
  clear hO5_2q0
  have hr_G2q0 := HG2q05.out.row
  go_wp2_with (fail)
  refine (eqTableau (xs1 := zs1q0) (xs2 := zs2q0) ?_ ?_ ?_ ?_ HZ1q0.out hk1q0 HZ2q0.out hk2q0).mono ?_
  · exact HG1q05.out.rd.mono (by (repeat' (first | (with_reducible exact Below.refl _ _) | (with_reducible assumption) | (with_reducible refine Below.alloc ?_ ?_ _) | (with_reducible refine Below.drew ?_) | (with_reducible refine bdN ?_ _) | (with_reducible refine Below.setCell ?_ ?_ _) | (with_reducible refine chn ?_ (by assumption) ?_) | omega | (simp; done) | (simp; omega))))
  · exact HG2q05.out.rd.mono (by (repeat' (first | (with_reducible exact Below.refl _ _) | (with_reducible assumption) | (with_reducible refine Below.alloc ?_ ?_ _) | (with_reducible refine Below.drew ?_) | (with_reducible refine bdN ?_ _) | (with_reducible refine Below.setCell ?_ ?_ _) | (with_reducible refine chn ?_ (by assumption) ?_) | omega | (simp; done) | (simp; omega))))
  · exact HW1q05.out.rd.mono (by (repeat' (first | (with_reducible exact Below.refl _ _) | (with_reducible assumption) | (with_reducible refine Below.alloc ?_ ?_ _) | (with_reducible refine Below.drew ?_) | (with_reducible refine bdN ?_ _) | (with_reducible refine Below.setCell ?_ ?_ _) | (with_reducible refine chn ?_ (by assumption) ?_) | omega | (simp; done) | (simp; omega))))
  · exact HW2q05.out.rd.mono (by (repeat' (first | (with_reducible exact Below.refl _ _) | (with_reducible assumption) | (with_reducible refine Below.alloc ?_ ?_ _) | (with_reducible refine Below.drew ?_) | (with_reducible refine bdN ?_ _) | (with_reducible refine Below.setCell ?_ ?_ _) | (with_reducible refine chn ?_ (by assumption) ?_) | omega | (simp; done) | (simp; omega))))
  rintro ee w6 ⟨rfl, hb6⟩
  have hL6 : Below w5.heap.size w5 w6 := by (repeat' (first | (with_reducible exact Below.refl _ _) | (with_reducible assumption) | (with_reducible refine Below.alloc ?_ ?_ _) | (with_reducible refine Below.drew ?_) | (with_reducible refine bdN ?_ _) | (with_reducible refine Below.setCell ?_ ?_ _) | (with_reducible refine chn ?_ (by assumption) ?_) | omega | (simp; done) | (simp; omega)))
  have hz6 := hb6.size
  (try simp only [World.size_alloc] at hz6)
  have hB6 : Below w.heap.size w w6 := chn hB5 hL6 hB5.size
  have k6_0_0 : w6.cell? ⟨w.heap.size, 0, none⟩ = some (.int .i64 a0p0) := (hL6.cell (p := ⟨w.heap.size, 0, none⟩) (by show w.heap.size < w5.heap.size; omega)).trans k5_0_0
  have k6_0_1 : w6.cell? ⟨w.heap.size, 1, none⟩ = some (.slice (A1p0) n1p0 c1p0) := (hL6.cell (p := ⟨w.heap.size, 1, none⟩) (by show w.heap.size < w5.heap.size; omega)).trans k5_0_1
  have k6_0_2 : w6.cell? ⟨w.heap.size, 2, none⟩ = some (.slice (A2p0) n2p0 c2p0) := (hL6.cell (p := ⟨w.heap.size, 2, none⟩) (by show w.heap.size < w5.heap.size; omega)).trans k5_0_2
  have k6_1_0 : w6.cell? ⟨w3.heap.size, 0, none⟩ = some (.int .i64 a0q0) := (hL6.cell (p := ⟨w3.heap.size, 0, none⟩) (by show w3.heap.size < w5.heap.size; omega)).trans k5_1_0
  have k6_1_1 : w6.cell? ⟨w3.heap.size, 1, none⟩ = some (.slice A3_1q0 k1q0 c3_1q0) := (hL6.cell (p := ⟨w3.heap.size, 1, none⟩) (by show w3.heap.size < w5.heap.size; omega)).trans k5_1_1
  have k6_1_2 : w6.cell? ⟨w3.heap.size, 2, none⟩ = some (.slice A3_2q0 k2q0 c3_2q0) := (hL6.cell (p := ⟨w3.heap.size, 2, none⟩) (by show w3.heap.size < w5.heap.size; omega)).trans k5_1_2
  have k6_2_0 : w6.cell? ⟨w4.heap.size, 0, none⟩ = some (.int .i64 a0p0) := (hL6.cell (p := ⟨w4.heap.size, 0, none⟩) (by show w4.heap.size < w5.heap.size; omega)).trans k5_2_0
  have k6_2_1 : w6.cell? ⟨w4.heap.size, 1, none⟩ = some (.slice (some ⟨g4_1, 0, none⟩) n1p0 n1p0) := (hL6.cell (p := ⟨w4.heap.size, 1, none⟩) (by show w4.heap.size < w5.heap.size; omega)).trans k5_2_1
  have k6_2_2 : w6.cell? ⟨w4.heap.size, 2, none⟩ = some (.slice (some ⟨g4_2, 0, none⟩) n2p0 n2p0) := (hL6.cell (p := ⟨w4.heap.size, 2, none⟩) (by show w4.heap.size < w5.heap.size; omega)).trans k5_2_2
  have k6_3_0 : w6.cell? ⟨w5.heap.size, 0, none⟩ = some (.int .i64 a0q0) := (hb6.cell (p := ⟨w5.heap.size, 0, none⟩) (by show w5.heap.size < _; (try simp only [World.size_alloc]); omega)).trans (by first | rfl | (simp; done) | (simp [*]; done))
  have k6_3_1 : w6.cell? ⟨w5.heap.size, 1, none⟩ = some (.slice A5_1q0 k1q0 c5_1q0) := (hb6.cell (p := ⟨w5.heap.size, 1, none⟩) (by show w5.heap.size < _; (try simp only [World.size_alloc]); omega)).trans (by first | rfl | (simp; done) | (simp [*]; done))
  have k6_3_2 : w6.cell? ⟨w5.heap.size, 2, none⟩ = some (.slice A5_2q0 k2q0 c5_2q0) := (hb6.cell (p := ⟨w5.heap.size, 2, none⟩) (by show w5.heap.size < _; (try simp only [World.size_alloc]); omega)).trans (by first | rfl | (simp; done) | (simp [*]; done))
  have bl6_0 : w.heap.size < w6.heap.size := World.block_lt_of_cell? _ _ k6_0_0
  have bl6_1 : w3.heap.size < w6.heap.size := World.block_lt_of_cell? _ _ k6_1_0
  have bl6_2 : w4.heap.size < w6.heap.size := World.block_lt_of_cell? _ _ k6_2_0
  have bl6_3 : w5.heap.size < w6.heap.size := World.block_lt_of_cell? _ _ k6_3_0
  have HW1q06 := lay (HW1q05.out.mono hL6)
  have HW2q06 := lay (HW2q05.out.mono hL6)
  have HX26 := lay (HX25.out.mono hL6)
  have HX36 := lay (HX35.out.mono hL6)
  have HG1q06 := lay (HG1q05.out.mono hL6)
  have HG2q06 := lay (HG2q05.out.mono hL6)
  clear hb6 hL6
  clear k5_0_0 k5_0_1 k5_0_2 k5_1_0 k5_1_1 k5_1_2 k5_2_0 k5_2_1 k5_2_2 HW1q05 HW2q05 HX25 HX35 HG1q05 HG2q05
  go_wp2_with (fail)
  go_cut [45] (fun s45 wx => (s45 = .bool false) ∧ (wx.cell? ⟨w.heap.size, 0, none⟩ = some (.int .i64 a0p0) ∧ wx.cell? ⟨w.heap.size, 1, none⟩ = some (.slice (A1p0) n1p0 c1p0) ∧ wx.cell? ⟨w.heap.size, 2, none⟩ = some (.slice (A2p0) n2p0 c2p0) ∧ wx.cell? ⟨w3.heap.size, 0, none⟩ = some (.int .i64 a0q0) ∧ wx.cell? ⟨w3.heap.size, 1, none⟩ = some (.slice A3_1q0 k1q0 c3_1q0) ∧ wx.cell? ⟨w3.heap.size, 2, none⟩ = some (.slice A3_2q0 k2q0 c3_2q0) ∧ wx.cell? ⟨w4.heap.size, 0, none⟩ = some (.int .i64 a0p0) ∧ wx.cell? ⟨w4.heap.size, 1, none⟩ = some (.slice (some ⟨g4_1, 0, none⟩) n1p0 n1p0) ∧ wx.cell? ⟨w4.heap.size, 2, none⟩ = some (.slice (some ⟨g4_2, 0, none⟩) n2p0 n2p0) ∧ wx.cell? ⟨w5.heap.size, 0, none⟩ = some (.int .i64 a0q0) ∧ wx.cell? ⟨w5.heap.size, 1, none⟩ = some (.slice A5_1q0 k1q0 c5_1q0) ∧ wx.cell? ⟨w5.heap.size, 2, none⟩ = some (.slice A5_2q0 k2q0 c5_2q0) ∧ Hid (RdB pauliE wx w3.heap.size A3_1q0 zs1q0) ∧ Hid (RdB pauliE wx w3.heap.size A3_2q0 zs2q0) ∧ Hid (Ow pauliE wx (w3.heap.size + 1) 43 (some ⟨g4_1, 0, none⟩) xs1p0) ∧ Hid (Ow pauliE wx (g4_1 + 1) 43 (some ⟨g4_2, 0, none⟩) xs2p0) ∧ Hid (Ow pauliE wx (w4.heap.size + 1) 43 A5_1q0 zs1q0) ∧ Hid (Ow pauliE wx (w4.heap.size + 1) 43 A5_2q0 zs2q0) ∧ w6.heap.size ≤ wx.heap.size ∧ Below w.heap.size w wx))
  case first =>
    have yk6_0_0 : w6.drew.cell? ⟨w.heap.size, 0, none⟩ = some (.int .i64 a0p0) := k6_0_0
    have yk6_0_1 : w6.drew.cell? ⟨w.heap.size, 1, none⟩ = some (.slice (A1p0) n1p0 c1p0) := k6_0_1
    have yk6_0_2 : w6.drew.cell? ⟨w.heap.size, 2, none⟩ = some (.slice (A2p0) n2p0 c2p0) := k6_0_2
    have yk6_1_0 : w6.drew.cell? ⟨w3.heap.size, 0, none⟩ = some (.int .i64 a0q0) := k6_1_0
    have yk6_1_1 : w6.drew.cell? ⟨w3.heap.size, 1, none⟩ = some (.slice A3_1q0 k1q0 c3_1q0) := k6_1_1
    have yk6_1_2 : w6.drew.cell? ⟨w3.heap.size, 2, none⟩ = some (.slice A3_2q0 k2q0 c3_2q0) := k6_1_2
    have yk6_2_0 : w6.drew.cell? ⟨w4.heap.size, 0, none⟩ = some (.int .i64 a0p0) := k6_2_0
    have yk6_2_1 : w6.drew.cell? ⟨w4.heap.size, 1, none⟩ = some (.slice (some ⟨g4_1, 0, none⟩) n1p0 n1p0) := k6_2_1
    have yk6_2_2 : w6.drew.cell? ⟨w4.heap.size, 2, none⟩ = some (.slice (some ⟨g4_2, 0, none⟩) n2p0 n2p0) := k6_2_2
    have yk6_3_0 : w6.drew.cell? ⟨w5.heap.size, 0, none⟩ = some (.int .i64 a0q0) := k6_3_0
    have yk6_3_1 : w6.drew.cell? ⟨w5.heap.size, 1, none⟩ = some (.slice A5_1q0 k1q0 c5_1q0) := k6_3_1
    have yk6_3_2 : w6.drew.cell? ⟨w5.heap.size, 2, none⟩ = some (.slice A5_2q0 k2q0 c5_2q0) := k6_3_2
    have hBz := hB6.size
    go_region_held3 (fun w' => w'.cell? ⟨w.heap.size, 0, none⟩ = some (.int .i64 a0p0) ∧ w'.cell? ⟨w.heap.size, 1, none⟩ = some (.slice (A1p0) n1p0 c1p0) ∧ w'.cell? ⟨w.heap.size, 2, none⟩ = some (.slice (A2p0) n2p0 c2p0) ∧ w'.cell? ⟨w3.heap.size, 0, none⟩ = some (.int .i64 a0q0) ∧ w'.cell? ⟨w3.heap.size, 1, none⟩ = some (.slice A3_1q0 k1q0 c3_1q0) ∧ w'.cell? ⟨w3.heap.size, 2, none⟩ = some (.slice A3_2q0 k2q0 c3_2q0) ∧ w'.cell? ⟨w4.heap.size, 0, none⟩ = some (.int .i64 a0p0) ∧ w'.cell? ⟨w4.heap.size, 1, none⟩ = some (.slice (some ⟨g4_1, 0, none⟩) n1p0 n1p0) ∧ w'.cell? ⟨w4.heap.size, 2, none⟩ = some (.slice (some ⟨g4_2, 0, none⟩) n2p0 n2p0) ∧ w'.cell? ⟨w5.heap.size, 0, none⟩ = some (.int .i64 a0q0) ∧ w'.cell? ⟨w5.heap.size, 1, none⟩ = some (.slice A5_1q0 k1q0 c5_1q0) ∧ w'.cell? ⟨w5.heap.size, 2, none⟩ = some (.slice A5_2q0 k2q0 c5_2q0)) (first | (with_reducible exact ⟨yk6_0_0, yk6_0_1, yk6_0_2, yk6_1_0, yk6_1_1, yk6_1_2, yk6_2_0, yk6_2_1, yk6_2_2, yk6_3_0, yk6_3_1, yk6_3_2⟩) | (with_reducible exact ⟨k6_0_0, k6_0_1, k6_0_2, k6_1_0, k6_1_1, k6_1_2, k6_2_0, k6_2_1, k6_2_2, k6_3_0, k6_3_1, k6_3_2⟩) | (go_split_ands; with_reducible exact ⟨kcl hv0 (by with_reducible assumption), kcl hv0 (by with_reducible assumption), kcl hv0 (by with_reducible assumption), kcl hv0 (by with_reducible assumption), kcl hv0 (by with_reducible assumption), kcl hv0 (by with_reducible assumption), kcl hv0 (by with_reducible assumption), kcl hv0 (by with_reducible assumption), kcl hv0 (by with_reducible assumption), kcl hv0 (by with_reducible assumption), kcl hv0 (by with_reducible assumption), kcl hv0 (by with_reducible assumption)⟩) | (go_split_ands; with_reducible exact ⟨kcl hv1 (by with_reducible assumption), kcl hv1 (by with_reducible assumption), kcl hv1 (by with_reducible assumption), kcl hv1 (by with_reducible assumption), kcl hv1 (by with_reducible assumption), kcl hv1 (by with_reducible assumption), kcl hv1 (by with_reducible assumption), kcl hv1 (by with_reducible assumption), kcl hv1 (by with_reducible assumption), kcl hv1 (by with_reducible assumption), kcl hv1 (by with_reducible assumption), kcl hv1 (by with_reducible assumption)⟩)) (first | (go_at_call 40; ((with_reducible refine (toTableau (xs1 := xs1p0) (xs2 := xs2p0) ?_ ?_ HN1p0.out bn1p0 HN2p0.out bn2p0).mono ?_); (exact HAA1p0.out.mono (by (repeat' (first | (with_reducible exact Below.refl _ _) | (with_reducible assumption) | (with_reducible refine Below.alloc ?_ ?_ _) | (with_reducible refine Below.drew ?_) | (with_reducible refine bdN ?_ _) | (with_reducible refine Below.setCell ?_ ?_ _) | (with_reducible refine chn ?_ (by assumption) ?_) | omega | (simp; done) | (simp; omega))))); (exact HAA2p0.out.mono (by (repeat' (first | (with_reducible exact Below.refl _ _) | (with_reducible assumption) | (with_reducible refine Below.alloc ?_ ?_ _) | (with_reducible refine Below.drew ?_) | (with_reducible refine bdN ?_ _) | (with_reducible refine Below.setCell ?_ ?_ _) | (with_reducible refine chn ?_ (by assumption) ?_) | omega | (simp; done) | (simp; omega))))); rintro ee v0 ⟨g9_1, g9_2, rfl, hK9_1, hK9_2, hg9_1, hg9_2, hv0⟩; have hq0 := hv0.size; (try simp only [World.size_drew, World.size_alloc] at hq0))) | (go_at_call 33; ((with_reducible refine (eqTableau (xs1 := xs1p0) (xs2 := xs2p0) ?_ ?_ ?_ ?_ HN1p0.out bn1p0 HN2p0.out bn2p0).mono ?_); (exact HX26.out.rd.mono (by (repeat' (first | (with_reducible exact Below.refl _ _) | (with_reducible assumption) | (with_reducible refine Below.alloc ?_ ?_ _) | (with_reducible refine Below.drew ?_) | (with_reducible refine bdN ?_ _) | (with_reducible refine Below.setCell ?_ ?_ _) | (with_reducible refine chn ?_ (by assumption) ?_) | omega | (simp; done) | (simp; omega))))); (exact HX36.out.rd.mono (by (repeat' (first | (with_reducible exact Below.refl _ _) | (with_reducible assumption) | (with_reducible refine Below.alloc ?_ ?_ _) | (with_reducible refine Below.drew ?_) | (with_reducible refine bdN ?_ _) | (with_reducible refine Below.setCell ?_ ?_ _) | (with_reducible refine chn ?_ (by assumption) ?_) | omega | (simp; done) | (simp; omega))))); (exact hK9_1.rd.mono (by (repeat' (first | (with_reducible exact Below.refl _ _) | (with_reducible assumption) | (with_reducible refine Below.alloc ?_ ?_ _) | (with_reducible refine Below.drew ?_) | (with_reducible refine bdN ?_ _) | (with_reducible refine Below.setCell ?_ ?_ _) | (with_reducible refine chn ?_ (by assumption) ?_) | omega | (simp; done) | (simp; omega))))); (exact hK9_2.rd.mono (by (repeat' (first | (with_reducible exact Below.refl _ _) | (with_reducible assumption) | (with_reducible refine Below.alloc ?_ ?_ _) | (with_reducible refine Below.drew ?_) | (with_reducible refine bdN ?_ _) | (with_reducible refine Below.setCell ?_ ?_ _) | (with_reducible refine chn ?_ (by assumption) ?_) | omega | (simp; done) | (simp; omega))))); rintro ee v1 ⟨rfl, hv1⟩; have hq1 := hv1.size; (try simp only [World.size_drew, World.size_alloc] at hq1))))
    all_goals (go_wp2_with fail; go_meet)
    all_goals go_split_ands
    all_goals (refine ⟨rfl, (by with_reducible assumption), (by with_reducible assumption), (by with_reducible assumption), (by with_reducible assumption), (by with_reducible assumption), (by with_reducible assumption), (by with_reducible assumption), (by with_reducible assumption), (by with_reducible assumption), (by with_reducible assumption), (by with_reducible assumption), (by with_reducible assumption), (by exact HW1q06.out.mono (by (repeat' (first | (with_reducible exact Below.refl _ _) | (with_reducible assumption) | (with_reducible refine Below.alloc ?_ ?_ _) | (with_reducible refine Below.drew ?_) | (with_reducible refine bdN ?_ _) | (with_reducible refine Below.setCell ?_ ?_ _) | (with_reducible refine chn ?_ (by assumption) ?_) | omega | (simp; done) | (simp; omega))))), (by exact HW2q06.out.mono (by (repeat' (first | (with_reducible exact Below.refl _ _) | (with_reducible assumption) | (with_reducible refine Below.alloc ?_ ?_ _) | (with_reducible refine Below.drew ?_) | (with_reducible refine bdN ?_ _) | (with_reducible refine Below.setCell ?_ ?_ _) | (with_reducible refine chn ?_ (by assumption) ?_) | omega | (simp; done) | (simp; omega))))), (by exact HX26.out.mono (by (repeat' (first | (with_reducible exact Below.refl _ _) | (with_reducible assumption) | (with_reducible refine Below.alloc ?_ ?_ _) | (with_reducible refine Below.drew ?_) | (with_reducible refine bdN ?_ _) | (with_reducible refine Below.setCell ?_ ?_ _) | (with_reducible refine chn ?_ (by assumption) ?_) | omega | (simp; done) | (simp; omega))))), (by exact HX36.out.mono (by (repeat' (first | (with_reducible exact Below.refl _ _) | (with_reducible assumption) | (with_reducible refine Below.alloc ?_ ?_ _) | (with_reducible refine Below.drew ?_) | (with_reducible refine bdN ?_ _) | (with_reducible refine Below.setCell ?_ ?_ _) | (with_reducible refine chn ?_ (by assumption) ?_) | omega | (simp; done) | (simp; omega))))), (by exact HG1q06.out.mono (by (repeat' (first | (with_reducible exact Below.refl _ _) | (with_reducible assumption) | (with_reducible refine Below.alloc ?_ ?_ _) | (with_reducible refine Below.drew ?_) | (with_reducible refine bdN ?_ _) | (with_reducible refine Below.setCell ?_ ?_ _) | (with_reducible refine chn ?_ (by assumption) ?_) | omega | (simp; done) | (simp; omega))))), (by exact HG2q06.out.mono (by (repeat' (first | (with_reducible exact Below.refl _ _) | (with_reducible assumption) | (with_reducible refine Below.alloc ?_ ?_ _) | (with_reducible refine Below.drew ?_) | (with_reducible refine bdN ?_ _) | (with_reducible refine Below.setCell ?_ ?_ _) | (with_reducible refine chn ?_ (by assumption) ?_) | omega | (simp; done) | (simp; omega))))), (by (try simp only [World.size_alloc, World.size_drew, World.size_setCell]); omega), (by (repeat' (first | (with_reducible exact Below.refl _ _) | (with_reducible assumption) | (with_reducible refine Below.alloc ?_ ?_ _) | (with_reducible refine Below.drew ?_) | (with_reducible refine bdN ?_ _) | (with_reducible refine Below.setCell ?_ ?_ _) | (with_reducible refine chn ?_ (by assumption) ?_) | omega | (simp; done) | (simp; omega))))⟩)
  case rest =>
    obtain ⟨w7, rfl⟩ : ∃ w7, w7 = wc := ⟨_, rfl⟩
    clear k6_0_0 k6_0_1 k6_0_2 k6_1_0 k6_1_1 k6_1_2 k6_2_0 k6_2_1 k6_2_2 k6_3_0 k6_3_1 k6_3_2 HW1q06 HW2q06 HX26 HX36 HG1q06 HG2q06
    obtain ⟨rfl, k7_0_0, k7_0_1, k7_0_2, k7_1_0, k7_1_1, k7_1_2, k7_2_0, k7_2_1, k7_2_2, k7_3_0, k7_3_1, k7_3_2, HW1q07, HW2q07, HX27, HX37, HG1q07, HG2q07, hz7, hB7⟩ := hcut
    have bl7_0 : w.heap.size < w7.heap.size := World.block_lt_of_cell? _ _ k7_0_0
    have bl7_1 : w3.heap.size < w7.heap.size := World.block_lt_of_cell? _ _ k7_1_0
    have bl7_2 : w4.heap.size < w7.heap.size := World.block_lt_of_cell? _ _ k7_2_0
    have bl7_3 : w5.heap.size < w7.heap.size := World.block_lt_of_cell? _ _ k7_3_0
    go_wp2_with (fail)
    refine (markTableau (B1 := w3.heap.size + 1) (B2 := g4_1 + 1) ?_ ?_ hne_X2 HN1p0.out bn1p0 HN2p0.out bn2p0 (by omega) (by omega)).mono ?_
    · exact HX27.out
    · exact HX37.out
    rintro ee w8 ⟨rfl, hOa8, hOb8, wm8, hGa8, hGb8⟩
    have hzm8 := hGa8.size
    have hzn8 := hGb8.size
    have hz8 : w7.heap.size ≤ w8.heap.size := Nat.le_trans hzm8 hzn8
    have hM8 := Below.grown hB7 hGa8 hB7.size (fun r hr => by have := hr_X2 r hr; omega)
    have hB8 : Below w.heap.size w w8 := Below.grown hM8 hGb8 hM8.size (fun r hr => by have := hr_X3 r hr; omega)
    have k8_0_0 : w8.cell? ⟨w.heap.size, 0, none⟩ = some (.int .i64 a0p0) := hGb8.cell (hGa8.cell k7_0_0 (fun e => by have := hr_X2 (w.heap.size) e.symm; omega)) (fun e => by have := hr_X3 (w.heap.size) e.symm; omega)
    have k8_0_1 : w8.cell? ⟨w.heap.size, 1, none⟩ = some (.slice (A1p0) n1p0 c1p0) := hGb8.cell (hGa8.cell k7_0_1 (fun e => by have := hr_X2 (w.heap.size) e.symm; omega)) (fun e => by have := hr_X3 (w.heap.size) e.symm; omega)
    have k8_0_2 : w8.cell? ⟨w.heap.size, 2, none⟩ = some (.slice (A2p0) n2p0 c2p0) := hGb8.cell (hGa8.cell k7_0_2 (fun e => by have := hr_X2 (w.heap.size) e.symm; omega)) (fun e => by have := hr_X3 (w.heap.size) e.symm; omega)
    have k8_1_0 : w8.cell? ⟨w3.heap.size, 0, none⟩ = some (.int .i64 a0q0) := hGb8.cell (hGa8.cell k7_1_0 (fun e => by have := hr_X2 (w3.heap.size) e.symm; omega)) (fun e => by have := hr_X3 (w3.heap.size) e.symm; omega)
    have k8_1_1 : w8.cell? ⟨w3.heap.size, 1, none⟩ = some (.slice A3_1q0 k1q0 c3_1q0) := hGb8.cell (hGa8.cell k7_1_1 (fun e => by have := hr_X2 (w3.heap.size) e.symm; omega)) (fun e => by have := hr_X3 (w3.heap.size) e.symm; omega)
    have k8_1_2 : w8.cell? ⟨w3.heap.size, 2, none⟩ = some (.slice A3_2q0 k2q0 c3_2q0) := hGb8.cell (hGa8.cell k7_1_2 (fun e => by have := hr_X2 (w3.heap.size) e.symm; omega)) (fun e => by have := hr_X3 (w3.heap.size) e.symm; omega)
    have k8_2_0 : w8.cell? ⟨w4.heap.size, 0, none⟩ = some (.int .i64 a0p0) := hGb8.cell (hGa8.cell k7_2_0 (fun e => by have := hr_X2 (w4.heap.size) e.symm; omega)) (fun e => by have := hr_X3 (w4.heap.size) e.symm; omega)
    have k8_2_1 : w8.cell? ⟨w4.heap.size, 1, none⟩ = some (.slice (some ⟨g4_1, 0, none⟩) n1p0 n1p0) := hGb8.cell (hGa8.cell k7_2_1 (fun e => by have := hr_X2 (w4.heap.size) e.symm; omega)) (fun e => by have := hr_X3 (w4.heap.size) e.symm; omega)
    have k8_2_2 : w8.cell? ⟨w4.heap.size, 2, none⟩ = some (.slice (some ⟨g4_2, 0, none⟩) n2p0 n2p0) := hGb8.cell (hGa8.cell k7_2_2 (fun e => by have := hr_X2 (w4.heap.size) e.symm; omega)) (fun e => by have := hr_X3 (w4.heap.size) e.symm; omega)
    have k8_3_0 : w8.cell? ⟨w5.heap.size, 0, none⟩ = some (.int .i64 a0q0) := hGb8.cell (hGa8.cell k7_3_0 (fun e => by have := hr_X2 (w5.heap.size) e.symm; omega)) (fun e => by have := hr_X3 (w5.heap.size) e.symm; omega)
    have k8_3_1 : w8.cell? ⟨w5.heap.size, 1, none⟩ = some (.slice A5_1q0 k1q0 c5_1q0) := hGb8.cell (hGa8.cell k7_3_1 (fun e => by have := hr_X2 (w5.heap.size) e.symm; omega)) (fun e => by have := hr_X3 (w5.heap.size) e.symm; omega)
    have k8_3_2 : w8.cell? ⟨w5.heap.size, 2, none⟩ = some (.slice A5_2q0 k2q0 c5_2q0) := hGb8.cell (hGa8.cell k7_3_2 (fun e => by have := hr_X2 (w5.heap.size) e.symm; omega)) (fun e => by have := hr_X3 (w5.heap.size) e.symm; omega)
    have HW1q08 := lay ((HW1q07.out.grown hGa8 (fun r hr => by have := hr_X2 r hr; omega)).grown hGb8 (fun r hr => by have := hr_X3 r hr; omega))
    have HW2q08 := lay ((HW2q07.out.grown hGa8 (fun r hr => by have := hr_X2 r hr; omega)).grown hGb8 (fun r hr => by have := hr_X3 r hr; omega))
    have HG1q08 := lay ((HG1q07.out.grown hGa8 (fun r hr => by have := hr_X2 r hr; omega)).grown hGb8 (fun r hr => by have := hr_X3 r hr; omega))
    have HG2q08 := lay ((HG2q07.out.grown hGa8 (fun r hr => by have := hr_X2 r hr; omega)).grown hGb8 (fun r hr => by have := hr_X3 r hr; omega))
    have bl8_0 : w.heap.size < w8.heap.size := World.block_lt_of_cell? _ _ k8_0_0
    have bl8_1 : w3.heap.size < w8.heap.size := World.block_lt_of_cell? _ _ k8_1_0
    have bl8_2 : w4.heap.size < w8.heap.size := World.block_lt_of_cell? _ _ k8_2_0
    have bl8_3 : w5.heap.size < w8.heap.size := World.block_lt_of_cell? _ _ k8_3_0
    have HX28 := lay hOa8
    have HX38 := lay hOb8
    clear hOa8 hOb8 hGa8 hGb8 hM8
    clear k7_0_0 k7_0_1 k7_0_2 k7_1_0 k7_1_1 k7_1_2 k7_2_0 k7_2_1 k7_2_2 k7_3_0 k7_3_1 k7_3_2 HW1q07 HW2q07 HG1q07 HG2q07 HX27 HX37
    clear HX28
    clear HX38
    go_wp2_with (fail)
    refine (eqTableau (xs1 := zs1q0) (xs2 := zs2q0) ?_ ?_ ?_ ?_ HZ1q0.out hk1q0 HZ2q0.out hk2q0).mono ?_
    · exact HG1q08.out.rd.mono (by (repeat' (first | (with_reducible exact Below.refl _ _) | (with_reducible assumption) | (with_reducible refine Below.alloc ?_ ?_ _) | (with_reducible refine Below.drew ?_) | (with_reducible refine bdN ?_ _) | (with_reducible refine Below.setCell ?_ ?_ _) | (with_reducible refine chn ?_ (by assumption) ?_) | omega | (simp; done) | (simp; omega))))
    · exact HG2q08.out.rd.mono (by (repeat' (first | (with_reducible exact Below.refl _ _) | (with_reducible assumption) | (with_reducible refine Below.alloc ?_ ?_ _) | (with_reducible refine Below.drew ?_) | (with_reducible refine bdN ?_ _) | (with_reducible refine Below.setCell ?_ ?_ _) | (with_reducible refine chn ?_ (by assumption) ?_) | omega | (simp; done) | (simp; omega))))
    · exact HW1q08.out.rd.mono (by (repeat' (first | (with_reducible exact Below.refl _ _) | (with_reducible assumption) | (with_reducible refine Below.alloc ?_ ?_ _) | (with_reducible refine Below.drew ?_) | (with_reducible refine bdN ?_ _) | (with_reducible refine Below.setCell ?_ ?_ _) | (with_reducible refine chn ?_ (by assumption) ?_) | omega | (simp; done) | (simp; omega))))
    · exact HW2q08.out.rd.mono (by (repeat' (first | (with_reducible exact Below.refl _ _) | (with_reducible assumption) | (with_reducible refine Below.alloc ?_ ?_ _) | (with_reducible refine Below.drew ?_) | (with_reducible refine bdN ?_ _) | (with_reducible refine Below.setCell ?_ ?_ _) | (with_reducible refine chn ?_ (by assumption) ?_) | omega | (simp; done) | (simp; omega))))
    rintro ee w9 ⟨rfl, hb9⟩
    have hL9 : Below w8.heap.size w8 w9 := by (repeat' (first | (with_reducible exact Below.refl _ _) | (with_reducible assumption) | (with_reducible refine Below.alloc ?_ ?_ _) | (with_reducible refine Below.drew ?_) | (with_reducible refine bdN ?_ _) | (with_reducible refine Below.setCell ?_ ?_ _) | (with_reducible refine chn ?_ (by assumption) ?_) | omega | (simp; done) | (simp; omega)))
    have hz9 := hb9.size
    (try simp only [World.size_alloc] at hz9)
    have hB9 : Below w.heap.size w w9 := chn hB8 hL9 hB8.size
    have k9_0_0 : w9.cell? ⟨w.heap.size, 0, none⟩ = some (.int .i64 a0p0) := (hL9.cell (p := ⟨w.heap.size, 0, none⟩) (by show w.heap.size < w8.heap.size; omega)).trans k8_0_0
    have k9_0_1 : w9.cell? ⟨w.heap.size, 1, none⟩ = some (.slice (A1p0) n1p0 c1p0) := (hL9.cell (p := ⟨w.heap.size, 1, none⟩) (by show w.heap.size < w8.heap.size; omega)).trans k8_0_1
    have k9_0_2 : w9.cell? ⟨w.heap.size, 2, none⟩ = some (.slice (A2p0) n2p0 c2p0) := (hL9.cell (p := ⟨w.heap.size, 2, none⟩) (by show w.heap.size < w8.heap.size; omega)).trans k8_0_2
    have k9_1_0 : w9.cell? ⟨w3.heap.size, 0, none⟩ = some (.int .i64 a0q0) := (hL9.cell (p := ⟨w3.heap.size, 0, none⟩) (by show w3.heap.size < w8.heap.size; omega)).trans k8_1_0
    have k9_1_1 : w9.cell? ⟨w3.heap.size, 1, none⟩ = some (.slice A3_1q0 k1q0 c3_1q0) := (hL9.cell (p := ⟨w3.heap.size, 1, none⟩) (by show w3.heap.size < w8.heap.size; omega)).trans k8_1_1
    have k9_1_2 : w9.cell? ⟨w3.heap.size, 2, none⟩ = some (.slice A3_2q0 k2q0 c3_2q0) := (hL9.cell (p := ⟨w3.heap.size, 2, none⟩) (by show w3.heap.size < w8.heap.size; omega)).trans k8_1_2
    have k9_2_0 : w9.cell? ⟨w4.heap.size, 0, none⟩ = some (.int .i64 a0p0) := (hL9.cell (p := ⟨w4.heap.size, 0, none⟩) (by show w4.heap.size < w8.heap.size; omega)).trans k8_2_0
    have k9_2_1 : w9.cell? ⟨w4.heap.size, 1, none⟩ = some (.slice (some ⟨g4_1, 0, none⟩) n1p0 n1p0) := (hL9.cell (p := ⟨w4.heap.size, 1, none⟩) (by show w4.heap.size < w8.heap.size; omega)).trans k8_2_1
    have k9_2_2 : w9.cell? ⟨w4.heap.size, 2, none⟩ = some (.slice (some ⟨g4_2, 0, none⟩) n2p0 n2p0) := (hL9.cell (p := ⟨w4.heap.size, 2, none⟩) (by show w4.heap.size < w8.heap.size; omega)).trans k8_2_2
    have k9_3_0 : w9.cell? ⟨w5.heap.size, 0, none⟩ = some (.int .i64 a0q0) := (hL9.cell (p := ⟨w5.heap.size, 0, none⟩) (by show w5.heap.size < w8.heap.size; omega)).trans k8_3_0
    have k9_3_1 : w9.cell? ⟨w5.heap.size, 1, none⟩ = some (.slice A5_1q0 k1q0 c5_1q0) := (hL9.cell (p := ⟨w5.heap.size, 1, none⟩) (by show w5.heap.size < w8.heap.size; omega)).trans k8_3_1
    have k9_3_2 : w9.cell? ⟨w5.heap.size, 2, none⟩ = some (.slice A5_2q0 k2q0 c5_2q0) := (hL9.cell (p := ⟨w5.heap.size, 2, none⟩) (by show w5.heap.size < w8.heap.size; omega)).trans k8_3_2
    have bl9_0 : w.heap.size < w9.heap.size := World.block_lt_of_cell? _ _ k9_0_0
    have bl9_1 : w3.heap.size < w9.heap.size := World.block_lt_of_cell? _ _ k9_1_0
    have bl9_2 : w4.heap.size < w9.heap.size := World.block_lt_of_cell? _ _ k9_2_0
    have bl9_3 : w5.heap.size < w9.heap.size := World.block_lt_of_cell? _ _ k9_3_0
    have HW1q09 := lay (HW1q08.out.mono hL9)
    have HW2q09 := lay (HW2q08.out.mono hL9)
    have HG1q09 := lay (HG1q08.out.mono hL9)
    have HG2q09 := lay (HG2q08.out.mono hL9)
    clear hb9 hL9
    clear k8_0_0 k8_0_1 k8_0_2 k8_1_0 k8_1_1 k8_1_2 k8_2_0 k8_2_1 k8_2_2 k8_3_0 k8_3_1 k8_3_2 HW1q08 HW2q08 HG1q08 HG2q08
    go_wp2_with (fail)
    refine (markTableau (B1 := w4.heap.size + 1) (B2 := w4.heap.size + 1) ?_ ?_ hNE5 HZ1q0.out hk1q0 HZ2q0.out hk2q0 (by omega) (by omega)).mono ?_
    · exact HG1q09.out
    · exact HG2q09.out
    rintro ee w10 ⟨rfl, hOa10, hOb10, wm10, hGa10, hGb10⟩
    have hzm10 := hGa10.size
    have hzn10 := hGb10.size
    have hz10 : w9.heap.size ≤ w10.heap.size := Nat.le_trans hzm10 hzn10
    have hM10 := Below.grown hB9 hGa10 hB9.size (fun r hr => by have := hr_G1q0 r hr; omega)
    have hB10 : Below w.heap.size w w10 := Below.grown hM10 hGb10 hM10.size (fun r hr => by have := hr_G2q0 r hr; omega)
    have k10_0_0 : w10.cell? ⟨w.heap.size, 0, none⟩ = some (.int .i64 a0p0) := hGb10.cell (hGa10.cell k9_0_0 (fun e => by have := hr_G1q0 (w.heap.size) e.symm; omega)) (fun e => by have := hr_G2q0 (w.heap.size) e.symm; omega)
    have k10_0_1 : w10.cell? ⟨w.heap.size, 1, none⟩ = some (.slice (A1p0) n1p0 c1p0) := hGb10.cell (hGa10.cell k9_0_1 (fun e => by have := hr_G1q0 (w.heap.size) e.symm; omega)) (fun e => by have := hr_G2q0 (w.heap.size) e.symm; omega)
    have k10_0_2 : w10.cell? ⟨w.heap.size, 2, none⟩ = some (.slice (A2p0) n2p0 c2p0) := hGb10.cell (hGa10.cell k9_0_2 (fun e => by have := hr_G1q0 (w.heap.size) e.symm; omega)) (fun e => by have := hr_G2q0 (w.heap.size) e.symm; omega)
    have k10_1_0 : w10.cell? ⟨w3.heap.size, 0, none⟩ = some (.int .i64 a0q0) := hGb10.cell (hGa10.cell k9_1_0 (fun e => by have := hr_G1q0 (w3.heap.size) e.symm; omega)) (fun e => by have := hr_G2q0 (w3.heap.size) e.symm; omega)
    have k10_1_1 : w10.cell? ⟨w3.heap.size, 1, none⟩ = some (.slice A3_1q0 k1q0 c3_1q0) := hGb10.cell (hGa10.cell k9_1_1 (fun e => by have := hr_G1q0 (w3.heap.size) e.symm; omega)) (fun e => by have := hr_G2q0 (w3.heap.size) e.symm; omega)
    have k10_1_2 : w10.cell? ⟨w3.heap.size, 2, none⟩ = some (.slice A3_2q0 k2q0 c3_2q0) := hGb10.cell (hGa10.cell k9_1_2 (fun e => by have := hr_G1q0 (w3.heap.size) e.symm; omega)) (fun e => by have := hr_G2q0 (w3.heap.size) e.symm; omega)
    have k10_2_0 : w10.cell? ⟨w4.heap.size, 0, none⟩ = some (.int .i64 a0p0) := hGb10.cell (hGa10.cell k9_2_0 (fun e => by have := hr_G1q0 (w4.heap.size) e.symm; omega)) (fun e => by have := hr_G2q0 (w4.heap.size) e.symm; omega)
    have k10_2_1 : w10.cell? ⟨w4.heap.size, 1, none⟩ = some (.slice (some ⟨g4_1, 0, none⟩) n1p0 n1p0) := hGb10.cell (hGa10.cell k9_2_1 (fun e => by have := hr_G1q0 (w4.heap.size) e.symm; omega)) (fun e => by have := hr_G2q0 (w4.heap.size) e.symm; omega)
    have k10_2_2 : w10.cell? ⟨w4.heap.size, 2, none⟩ = some (.slice (some ⟨g4_2, 0, none⟩) n2p0 n2p0) := hGb10.cell (hGa10.cell k9_2_2 (fun e => by have := hr_G1q0 (w4.heap.size) e.symm; omega)) (fun e => by have := hr_G2q0 (w4.heap.size) e.symm; omega)
    have k10_3_0 : w10.cell? ⟨w5.heap.size, 0, none⟩ = some (.int .i64 a0q0) := hGb10.cell (hGa10.cell k9_3_0 (fun e => by have := hr_G1q0 (w5.heap.size) e.symm; omega)) (fun e => by have := hr_G2q0 (w5.heap.size) e.symm; omega)
    have k10_3_1 : w10.cell? ⟨w5.heap.size, 1, none⟩ = some (.slice A5_1q0 k1q0 c5_1q0) := hGb10.cell (hGa10.cell k9_3_1 (fun e => by have := hr_G1q0 (w5.heap.size) e.symm; omega)) (fun e => by have := hr_G2q0 (w5.heap.size) e.symm; omega)
    have k10_3_2 : w10.cell? ⟨w5.heap.size, 2, none⟩ = some (.slice A5_2q0 k2q0 c5_2q0) := hGb10.cell (hGa10.cell k9_3_2 (fun e => by have := hr_G1q0 (w5.heap.size) e.symm; omega)) (fun e => by have := hr_G2q0 (w5.heap.size) e.symm; omega)
    have HW1q010 := lay ((HW1q09.out.grown hGa10 (fun r hr => by have := hr_G1q0 r hr; omega)).grown hGb10 (fun r hr => by have := hr_G2q0 r hr; omega))
    have HW2q010 := lay ((HW2q09.out.grown hGa10 (fun r hr => by have := hr_G1q0 r hr; omega)).grown hGb10 (fun r hr => by have := hr_G2q0 r hr; omega))
    have bl10_0 : w.heap.size < w10.heap.size := World.block_lt_of_cell? _ _ k10_0_0
    have bl10_1 : w3.heap.size < w10.heap.size := World.block_lt_of_cell? _ _ k10_1_0
    have bl10_2 : w4.heap.size < w10.heap.size := World.block_lt_of_cell? _ _ k10_2_0
    have bl10_3 : w5.heap.size < w10.heap.size := World.block_lt_of_cell? _ _ k10_3_0
    have HG1q010 := lay hOa10
    have HG2q010 := lay hOb10
    clear hOa10 hOb10 hGa10 hGb10 hM10
    clear k9_0_0 k9_0_1 k9_0_2 k9_1_0 k9_1_1 k9_1_2 k9_2_0 k9_2_1 k9_2_2 k9_3_0 k9_3_1 k9_3_2 HW1q09 HW2q09 HG1q09 HG2q09
    go_wp2_with (fail)
    refine (heldTableau ?_ ?_ hk1q0 hk2q0 (by decide) (by decide)).mono ?_
    · exact HG1q010.out.rd.mono (by (repeat' (first | (with_reducible exact Below.refl _ _) | (with_reducible assumption) | (with_reducible refine Below.alloc ?_ ?_ _) | (with_reducible refine Below.drew ?_) | (with_reducible refine bdN ?_ _) | (with_reducible refine Below.setCell ?_ ?_ _) | (with_reducible refine chn ?_ (by assumption) ?_) | omega | (simp; done) | (simp; omega))))
    · exact HG2q010.out.rd.mono (by (repeat' (first | (with_reducible exact Below.refl _ _) | (with_reducible assumption) | (with_reducible refine Below.alloc ?_ ?_ _) | (with_reducible refine Below.drew ?_) | (with_reducible refine bdN ?_ _) | (with_reducible refine Below.setCell ?_ ?_ _) | (with_reducible refine chn ?_ (by assumption) ?_) | omega | (simp; done) | (simp; omega))))
    rintro ee w11 ⟨rfl, hb11⟩
    have hL11 : Below w10.heap.size w10 w11 := by (repeat' (first | (with_reducible exact Below.refl _ _) | (with_reducible assumption) | (with_reducible refine Below.alloc ?_ ?_ _) | (with_reducible refine Below.drew ?_) | (with_reducible refine bdN ?_ _) | (with_reducible refine Below.setCell ?_ ?_ _) | (with_reducible refine chn ?_ (by assumption) ?_) | omega | (simp; done) | (simp; omega)))
    have hz11 := hb11.size
    (try simp only [World.size_alloc] at hz11)
    have hB11 : Below w.heap.size w w11 := chn hB10 hL11 hB10.size
    have k11_0_0 : w11.cell? ⟨w.heap.size, 0, none⟩ = some (.int .i64 a0p0) := (hL11.cell (p := ⟨w.heap.size, 0, none⟩) (by show w.heap.size < w10.heap.size; omega)).trans k10_0_0
    have k11_0_1 : w11.cell? ⟨w.heap.size, 1, none⟩ = some (.slice (A1p0) n1p0 c1p0) := (hL11.cell (p := ⟨w.heap.size, 1, none⟩) (by show w.heap.size < w10.heap.size; omega)).trans k10_0_1
    have k11_0_2 : w11.cell? ⟨w.heap.size, 2, none⟩ = some (.slice (A2p0) n2p0 c2p0) := (hL11.cell (p := ⟨w.heap.size, 2, none⟩) (by show w.heap.size < w10.heap.size; omega)).trans k10_0_2
    have k11_1_0 : w11.cell? ⟨w3.heap.size, 0, none⟩ = some (.int .i64 a0q0) := (hL11.cell (p := ⟨w3.heap.size, 0, none⟩) (by show w3.heap.size < w10.heap.size; omega)).trans k10_1_0
    have k11_1_1 : w11.cell? ⟨w3.heap.size, 1, none⟩ = some (.slice A3_1q0 k1q0 c3_1q0) := (hL11.cell (p := ⟨w3.heap.size, 1, none⟩) (by show w3.heap.size < w10.heap.size; omega)).trans k10_1_1
    have k11_1_2 : w11.cell? ⟨w3.heap.size, 2, none⟩ = some (.slice A3_2q0 k2q0 c3_2q0) := (hL11.cell (p := ⟨w3.heap.size, 2, none⟩) (by show w3.heap.size < w10.heap.size; omega)).trans k10_1_2
    have k11_2_0 : w11.cell? ⟨w4.heap.size, 0, none⟩ = some (.int .i64 a0p0) := (hL11.cell (p := ⟨w4.heap.size, 0, none⟩) (by show w4.heap.size < w10.heap.size; omega)).trans k10_2_0
    have k11_2_1 : w11.cell? ⟨w4.heap.size, 1, none⟩ = some (.slice (some ⟨g4_1, 0, none⟩) n1p0 n1p0) := (hL11.cell (p := ⟨w4.heap.size, 1, none⟩) (by show w4.heap.size < w10.heap.size; omega)).trans k10_2_1
    have k11_2_2 : w11.cell? ⟨w4.heap.size, 2, none⟩ = some (.slice (some ⟨g4_2, 0, none⟩) n2p0 n2p0) := (hL11.cell (p := ⟨w4.heap.size, 2, none⟩) (by show w4.heap.size < w10.heap.size; omega)).trans k10_2_2
    have k11_3_0 : w11.cell? ⟨w5.heap.size, 0, none⟩ = some (.int .i64 a0q0) := (hL11.cell (p := ⟨w5.heap.size, 0, none⟩) (by show w5.heap.size < w10.heap.size; omega)).trans k10_3_0
    have k11_3_1 : w11.cell? ⟨w5.heap.size, 1, none⟩ = some (.slice A5_1q0 k1q0 c5_1q0) := (hL11.cell (p := ⟨w5.heap.size, 1, none⟩) (by show w5.heap.size < w10.heap.size; omega)).trans k10_3_1
    have k11_3_2 : w11.cell? ⟨w5.heap.size, 2, none⟩ = some (.slice A5_2q0 k2q0 c5_2q0) := (hL11.cell (p := ⟨w5.heap.size, 2, none⟩) (by show w5.heap.size < w10.heap.size; omega)).trans k10_3_2
    have bl11_0 : w.heap.size < w11.heap.size := World.block_lt_of_cell? _ _ k11_0_0
    have bl11_1 : w3.heap.size < w11.heap.size := World.block_lt_of_cell? _ _ k11_1_0
    have bl11_2 : w4.heap.size < w11.heap.size := World.block_lt_of_cell? _ _ k11_2_0
    have bl11_3 : w5.heap.size < w11.heap.size := World.block_lt_of_cell? _ _ k11_3_0
    have HW1q011 := lay (HW1q010.out.mono hL11)
    have HW2q011 := lay (HW2q010.out.mono hL11)
    have HG1q011 := lay (HG1q010.out.mono hL11)
    have HG2q011 := lay (HG2q010.out.mono hL11)
    clear hb11 hL11
    clear k10_0_0 k10_0_1 k10_0_2 k10_1_0 k10_1_1 k10_1_2 k10_2_0 k10_2_1 k10_2_2 k10_3_0 k10_3_1 k10_3_2 HW1q010 HW2q010 HG1q010 HG2q010
    go_wp2_with (fail)
    refine (toTableau ?_ ?_ HN1p0.out bn1p0 HN2p0.out bn2p0).mono ?_
    · exact HAA1p0.out.mono (by (repeat' (first | (with_reducible exact Below.refl _ _) | (with_reducible assumption) | (with_reducible refine Below.alloc ?_ ?_ _) | (with_reducible refine Below.drew ?_) | (with_reducible refine bdN ?_ _) | (with_reducible refine Below.setCell ?_ ?_ _) | (with_reducible refine chn ?_ (by assumption) ?_) | omega | (simp; done) | (simp; omega))))
    · exact HAA2p0.out.mono (by (repeat' (first | (with_reducible exact Below.refl _ _) | (with_reducible assumption) | (with_reducible refine Below.alloc ?_ ?_ _) | (with_reducible refine Below.drew ?_) | (with_reducible refine bdN ?_ _) | (with_reducible refine Below.setCell ?_ ?_ _) | (with_reducible refine chn ?_ (by assumption) ?_) | omega | (simp; done) | (simp; omega))))
    rintro ee w12 ⟨g12_1, g12_2, rfl, hK12_1, hK12_2, hg12_1, hg12_2, hb12⟩
    have hL12 : Below w11.heap.size w11 w12 := by (repeat' (first | (with_reducible exact Below.refl _ _) | (with_reducible assumption) | (with_reducible refine Below.alloc ?_ ?_ _) | (with_reducible refine Below.drew ?_) | (with_reducible refine bdN ?_ _) | (with_reducible refine Below.setCell ?_ ?_ _) | (with_reducible refine chn ?_ (by assumption) ?_) | omega | (simp; done) | (simp; omega)))
    have hz12 := hb12.size
    (try simp only [World.size_alloc] at hz12)
    have hB12 : Below w.heap.size w w12 := chn hB11 hL12 hB11.size
    have k12_0_0 : w12.cell? ⟨w.heap.size, 0, none⟩ = some (.int .i64 a0p0) := (hL12.cell (p := ⟨w.heap.size, 0, none⟩) (by show w.heap.size < w11.heap.size; omega)).trans k11_0_0
    have k12_0_1 : w12.cell? ⟨w.heap.size, 1, none⟩ = some (.slice (A1p0) n1p0 c1p0) := (hL12.cell (p := ⟨w.heap.size, 1, none⟩) (by show w.heap.size < w11.heap.size; omega)).trans k11_0_1
    have k12_0_2 : w12.cell? ⟨w.heap.size, 2, none⟩ = some (.slice (A2p0) n2p0 c2p0) := (hL12.cell (p := ⟨w.heap.size, 2, none⟩) (by show w.heap.size < w11.heap.size; omega)).trans k11_0_2
    have k12_1_0 : w12.cell? ⟨w3.heap.size, 0, none⟩ = some (.int .i64 a0q0) := (hL12.cell (p := ⟨w3.heap.size, 0, none⟩) (by show w3.heap.size < w11.heap.size; omega)).trans k11_1_0
    have k12_1_1 : w12.cell? ⟨w3.heap.size, 1, none⟩ = some (.slice A3_1q0 k1q0 c3_1q0) := (hL12.cell (p := ⟨w3.heap.size, 1, none⟩) (by show w3.heap.size < w11.heap.size; omega)).trans k11_1_1
    have k12_1_2 : w12.cell? ⟨w3.heap.size, 2, none⟩ = some (.slice A3_2q0 k2q0 c3_2q0) := (hL12.cell (p := ⟨w3.heap.size, 2, none⟩) (by show w3.heap.size < w11.heap.size; omega)).trans k11_1_2
    have k12_2_0 : w12.cell? ⟨w4.heap.size, 0, none⟩ = some (.int .i64 a0p0) := (hL12.cell (p := ⟨w4.heap.size, 0, none⟩) (by show w4.heap.size < w11.heap.size; omega)).trans k11_2_0
    have k12_2_1 : w12.cell? ⟨w4.heap.size, 1, none⟩ = some (.slice (some ⟨g4_1, 0, none⟩) n1p0 n1p0) := (hL12.cell (p := ⟨w4.heap.size, 1, none⟩) (by show w4.heap.size < w11.heap.size; omega)).trans k11_2_1
    have k12_2_2 : w12.cell? ⟨w4.heap.size, 2, none⟩ = some (.slice (some ⟨g4_2, 0, none⟩) n2p0 n2p0) := (hL12.cell (p := ⟨w4.heap.size, 2, none⟩) (by show w4.heap.size < w11.heap.size; omega)).trans k11_2_2
    have k12_3_0 : w12.cell? ⟨w5.heap.size, 0, none⟩ = some (.int .i64 a0q0) := (hL12.cell (p := ⟨w5.heap.size, 0, none⟩) (by show w5.heap.size < w11.heap.size; omega)).trans k11_3_0
    have k12_3_1 : w12.cell? ⟨w5.heap.size, 1, none⟩ = some (.slice A5_1q0 k1q0 c5_1q0) := (hL12.cell (p := ⟨w5.heap.size, 1, none⟩) (by show w5.heap.size < w11.heap.size; omega)).trans k11_3_1
    have k12_3_2 : w12.cell? ⟨w5.heap.size, 2, none⟩ = some (.slice A5_2q0 k2q0 c5_2q0) := (hL12.cell (p := ⟨w5.heap.size, 2, none⟩) (by show w5.heap.size < w11.heap.size; omega)).trans k11_3_2
    have bl12_0 : w.heap.size < w12.heap.size := World.block_lt_of_cell? _ _ k12_0_0
    have bl12_1 : w3.heap.size < w12.heap.size := World.block_lt_of_cell? _ _ k12_1_0
    have bl12_2 : w4.heap.size < w12.heap.size := World.block_lt_of_cell? _ _ k12_2_0
    have bl12_3 : w5.heap.size < w12.heap.size := World.block_lt_of_cell? _ _ k12_3_0
    have HW1q012 := lay (HW1q011.out.mono hL12)
    have HW2q012 := lay (HW2q011.out.mono hL12)
    have HG1q012 := lay (HG1q011.out.mono hL12)
    have HG2q012 := lay (HG2q011.out.mono hL12)
    clear hb12 hL12
    clear k11_0_0 k11_0_1 k11_0_2 k11_1_0 k11_1_1 k11_1_2 k11_2_0 k11_2_1 k11_2_2 k11_3_0 k11_3_1 k11_3_2 HW1q011 HW2q011 HG1q011 HG2q011
    (try simp only [World.size_alloc] at hg12_1)
    have HR412 := lay hK12_1
    clear hK12_1
    have HR512 := lay hK12_2
    clear hK12_2
    go_wp2_with (fail)
    refine (HI.out _ _ _ ?_ ?_).mono ?_
    · exact HR412.out.rd.mono (by (repeat' (first | (with_reducible exact Below.refl _ _) | (with_reducible assumption) | (with_reducible refine Below.alloc ?_ ?_ _) | (with_reducible refine Below.drew ?_) | (with_reducible refine bdN ?_ _) | (with_reducible refine Below.setCell ?_ ?_ _) | (with_reducible refine chn ?_ (by assumption) ?_) | omega | (simp; done) | (simp; omega))))
    · exact HR512.out.rd.mono (by (repeat' (first | (with_reducible exact Below.refl _ _) | (with_reducible assumption) | (with_reducible refine Below.alloc ?_ ?_ _) | (with_reducible refine Below.drew ?_) | (with_reducible refine bdN ?_ _) | (with_reducible refine Below.setCell ?_ ?_ _) | (with_reducible refine chn ?_ (by assumption) ?_) | omega | (simp; done) | (simp; omega))))
    rintro ee w13 ⟨A13_1q0, c13_1q0, A13_2q0, c13_2q0, rfl, hO13_1q0, hO13_2q0, hNE13, hb13⟩
    have hL13 : Below w12.heap.size w12 w13 := by (repeat' (first | (with_reducible exact Below.refl _ _) | (with_reducible assumption) | (with_reducible refine Below.alloc ?_ ?_ _) | (with_reducible refine Below.drew ?_) | (with_reducible refine bdN ?_ _) | (with_reducible refine Below.setCell ?_ ?_ _) | (with_reducible refine chn ?_ (by assumption) ?_) | omega | (simp; done) | (simp; omega)))
    have hz13 := hb13.size
    (try simp only [World.size_alloc] at hz13)
    have hB13 : Below w.heap.size w w13 := chn hB12 hL13 hB12.size
    have k13_0_0 : w13.cell? ⟨w.heap.size, 0, none⟩ = some (.int .i64 a0p0) := (hL13.cell (p := ⟨w.heap.size, 0, none⟩) (by show w.heap.size < w12.heap.size; omega)).trans k12_0_0
    have k13_0_1 : w13.cell? ⟨w.heap.size, 1, none⟩ = some (.slice (A1p0) n1p0 c1p0) := (hL13.cell (p := ⟨w.heap.size, 1, none⟩) (by show w.heap.size < w12.heap.size; omega)).trans k12_0_1
    have k13_0_2 : w13.cell? ⟨w.heap.size, 2, none⟩ = some (.slice (A2p0) n2p0 c2p0) := (hL13.cell (p := ⟨w.heap.size, 2, none⟩) (by show w.heap.size < w12.heap.size; omega)).trans k12_0_2
    have k13_1_0 : w13.cell? ⟨w3.heap.size, 0, none⟩ = some (.int .i64 a0q0) := (hL13.cell (p := ⟨w3.heap.size, 0, none⟩) (by show w3.heap.size < w12.heap.size; omega)).trans k12_1_0
    have k13_1_1 : w13.cell? ⟨w3.heap.size, 1, none⟩ = some (.slice A3_1q0 k1q0 c3_1q0) := (hL13.cell (p := ⟨w3.heap.size, 1, none⟩) (by show w3.heap.size < w12.heap.size; omega)).trans k12_1_1
    have k13_1_2 : w13.cell? ⟨w3.heap.size, 2, none⟩ = some (.slice A3_2q0 k2q0 c3_2q0) := (hL13.cell (p := ⟨w3.heap.size, 2, none⟩) (by show w3.heap.size < w12.heap.size; omega)).trans k12_1_2
    have k13_2_0 : w13.cell? ⟨w4.heap.size, 0, none⟩ = some (.int .i64 a0p0) := (hL13.cell (p := ⟨w4.heap.size, 0, none⟩) (by show w4.heap.size < w12.heap.size; omega)).trans k12_2_0
    have k13_2_1 : w13.cell? ⟨w4.heap.size, 1, none⟩ = some (.slice (some ⟨g4_1, 0, none⟩) n1p0 n1p0) := (hL13.cell (p := ⟨w4.heap.size, 1, none⟩) (by show w4.heap.size < w12.heap.size; omega)).trans k12_2_1
    have k13_2_2 : w13.cell? ⟨w4.heap.size, 2, none⟩ = some (.slice (some ⟨g4_2, 0, none⟩) n2p0 n2p0) := (hL13.cell (p := ⟨w4.heap.size, 2, none⟩) (by show w4.heap.size < w12.heap.size; omega)).trans k12_2_2
    have k13_3_0 : w13.cell? ⟨w5.heap.size, 0, none⟩ = some (.int .i64 a0q0) := (hL13.cell (p := ⟨w5.heap.size, 0, none⟩) (by show w5.heap.size < w12.heap.size; omega)).trans k12_3_0
    have k13_3_1 : w13.cell? ⟨w5.heap.size, 1, none⟩ = some (.slice A5_1q0 k1q0 c5_1q0) := (hL13.cell (p := ⟨w5.heap.size, 1, none⟩) (by show w5.heap.size < w12.heap.size; omega)).trans k12_3_1
    have k13_3_2 : w13.cell? ⟨w5.heap.size, 2, none⟩ = some (.slice A5_2q0 k2q0 c5_2q0) := (hL13.cell (p := ⟨w5.heap.size, 2, none⟩) (by show w5.heap.size < w12.heap.size; omega)).trans k12_3_2
    have bl13_0 : w.heap.size < w13.heap.size := World.block_lt_of_cell? _ _ k13_0_0
    have bl13_1 : w3.heap.size < w13.heap.size := World.block_lt_of_cell? _ _ k13_1_0
    have bl13_2 : w4.heap.size < w13.heap.size := World.block_lt_of_cell? _ _ k13_2_0
    have bl13_3 : w5.heap.size < w13.heap.size := World.block_lt_of_cell? _ _ k13_3_0
    have HW1q013 := lay (HW1q012.out.mono hL13)
    have HW2q013 := lay (HW2q012.out.mono hL13)
    have HG1q013 := lay (HG1q012.out.mono hL13)
    have HG2q013 := lay (HG2q012.out.mono hL13)
    have HR413 := lay (HR412.out.mono hL13)
    have HR513 := lay (HR512.out.mono hL13)
    clear hb13 hL13
    clear k12_0_0 k12_0_1 k12_0_2 k12_1_0 k12_1_1 k12_1_2 k12_2_0 k12_2_1 k12_2_2 k12_3_0 k12_3_1 k12_3_2 HW1q012 HW2q012 HG1q012 HG2q012 HR412 HR512
    clear HR413
    clear HR513
    (try simp only [World.size_alloc] at hO13_1q0)
    have HH1q013 : Hid (RdB pauliE w13 w13.heap.size A13_1q0 zs1q0) := hO13_1q0.rd.b (Nat.le_refl _)
    clear hO13_1q0
    (try simp only [World.size_alloc] at hO13_2q0)
    have HH2q013 : Hid (RdB pauliE w13 w13.heap.size A13_2q0 zs2q0) := hO13_2q0.rd.b (Nat.le_refl _)
    clear hO13_2q0
    clear hNE13
    go_wp2_with (fail)
    refine (eqTableau (xs1 := zs1q0) (xs2 := zs2q0) ?_ ?_ ?_ ?_ HZ1q0.out hk1q0 HZ2q0.out hk2q0).mono ?_
    · exact HH1q013.out.rd.mono (by (repeat' (first | (with_reducible exact Below.refl _ _) | (with_reducible assumption) | (with_reducible refine Below.alloc ?_ ?_ _) | (with_reducible refine Below.drew ?_) | (with_reducible refine bdN ?_ _) | (with_reducible refine Below.setCell ?_ ?_ _) | (with_reducible refine chn ?_ (by assumption) ?_) | omega | (simp; done) | (simp; omega))))
    · exact HH2q013.out.rd.mono (by (repeat' (first | (with_reducible exact Below.refl _ _) | (with_reducible assumption) | (with_reducible refine Below.alloc ?_ ?_ _) | (with_reducible refine Below.drew ?_) | (with_reducible refine bdN ?_ _) | (with_reducible refine Below.setCell ?_ ?_ _) | (with_reducible refine chn ?_ (by assumption) ?_) | omega | (simp; done) | (simp; omega))))
    · exact HW1q013.out.rd.mono (by (repeat' (first | (with_reducible exact Below.refl _ _) | (with_reducible assumption) | (with_reducible refine Below.alloc ?_ ?_ _) | (with_reducible refine Below.drew ?_) | (with_reducible refine bdN ?_ _) | (with_reducible refine Below.setCell ?_ ?_ _) | (with_reducible refine chn ?_ (by assumption) ?_) | omega | (simp; done) | (simp; omega))))
    · exact HW2q013.out.rd.mono (by (repeat' (first | (with_reducible exact Below.refl _ _) | (with_reducible assumption) | (with_reducible refine Below.alloc ?_ ?_ _) | (with_reducible refine Below.drew ?_) | (with_reducible refine bdN ?_ _) | (with_reducible refine Below.setCell ?_ ?_ _) | (with_reducible refine chn ?_ (by assumption) ?_) | omega | (simp; done) | (simp; omega))))
    rintro ee w14 ⟨rfl, hb14⟩
    have hL14 : Below w13.heap.size w13 w14 := by (repeat' (first | (with_reducible exact Below.refl _ _) | (with_reducible assumption) | (with_reducible refine Below.alloc ?_ ?_ _) | (with_reducible refine Below.drew ?_) | (with_reducible refine bdN ?_ _) | (with_reducible refine Below.setCell ?_ ?_ _) | (with_reducible refine chn ?_ (by assumption) ?_) | omega | (simp; done) | (simp; omega)))
    have hz14 := hb14.size
    (try simp only [World.size_alloc] at hz14)
    have hB14 : Below w.heap.size w w14 := chn hB13 hL14 hB13.size
    have k14_0_0 : w14.cell? ⟨w.heap.size, 0, none⟩ = some (.int .i64 a0p0) := (hL14.cell (p := ⟨w.heap.size, 0, none⟩) (by show w.heap.size < w13.heap.size; omega)).trans k13_0_0
    have k14_0_1 : w14.cell? ⟨w.heap.size, 1, none⟩ = some (.slice (A1p0) n1p0 c1p0) := (hL14.cell (p := ⟨w.heap.size, 1, none⟩) (by show w.heap.size < w13.heap.size; omega)).trans k13_0_1
    have k14_0_2 : w14.cell? ⟨w.heap.size, 2, none⟩ = some (.slice (A2p0) n2p0 c2p0) := (hL14.cell (p := ⟨w.heap.size, 2, none⟩) (by show w.heap.size < w13.heap.size; omega)).trans k13_0_2
    have k14_1_0 : w14.cell? ⟨w3.heap.size, 0, none⟩ = some (.int .i64 a0q0) := (hL14.cell (p := ⟨w3.heap.size, 0, none⟩) (by show w3.heap.size < w13.heap.size; omega)).trans k13_1_0
    have k14_1_1 : w14.cell? ⟨w3.heap.size, 1, none⟩ = some (.slice A3_1q0 k1q0 c3_1q0) := (hL14.cell (p := ⟨w3.heap.size, 1, none⟩) (by show w3.heap.size < w13.heap.size; omega)).trans k13_1_1
    have k14_1_2 : w14.cell? ⟨w3.heap.size, 2, none⟩ = some (.slice A3_2q0 k2q0 c3_2q0) := (hL14.cell (p := ⟨w3.heap.size, 2, none⟩) (by show w3.heap.size < w13.heap.size; omega)).trans k13_1_2
    have k14_2_0 : w14.cell? ⟨w4.heap.size, 0, none⟩ = some (.int .i64 a0p0) := (hL14.cell (p := ⟨w4.heap.size, 0, none⟩) (by show w4.heap.size < w13.heap.size; omega)).trans k13_2_0
    have k14_2_1 : w14.cell? ⟨w4.heap.size, 1, none⟩ = some (.slice (some ⟨g4_1, 0, none⟩) n1p0 n1p0) := (hL14.cell (p := ⟨w4.heap.size, 1, none⟩) (by show w4.heap.size < w13.heap.size; omega)).trans k13_2_1
    have k14_2_2 : w14.cell? ⟨w4.heap.size, 2, none⟩ = some (.slice (some ⟨g4_2, 0, none⟩) n2p0 n2p0) := (hL14.cell (p := ⟨w4.heap.size, 2, none⟩) (by show w4.heap.size < w13.heap.size; omega)).trans k13_2_2
    have k14_3_0 : w14.cell? ⟨w5.heap.size, 0, none⟩ = some (.int .i64 a0q0) := (hL14.cell (p := ⟨w5.heap.size, 0, none⟩) (by show w5.heap.size < w13.heap.size; omega)).trans k13_3_0
    have k14_3_1 : w14.cell? ⟨w5.heap.size, 1, none⟩ = some (.slice A5_1q0 k1q0 c5_1q0) := (hL14.cell (p := ⟨w5.heap.size, 1, none⟩) (by show w5.heap.size < w13.heap.size; omega)).trans k13_3_1
    have k14_3_2 : w14.cell? ⟨w5.heap.size, 2, none⟩ = some (.slice A5_2q0 k2q0 c5_2q0) := (hL14.cell (p := ⟨w5.heap.size, 2, none⟩) (by show w5.heap.size < w13.heap.size; omega)).trans k13_3_2
    have k14_4_0 : w14.cell? ⟨w13.heap.size, 0, none⟩ = some (.int .i64 a0q0) := (hb14.cell (p := ⟨w13.heap.size, 0, none⟩) (by show w13.heap.size < _; (try simp only [World.size_alloc]); omega)).trans (by first | rfl | (simp; done) | (simp [*]; done))
    have k14_4_1 : w14.cell? ⟨w13.heap.size, 1, none⟩ = some (.slice A13_1q0 k1q0 c13_1q0) := (hb14.cell (p := ⟨w13.heap.size, 1, none⟩) (by show w13.heap.size < _; (try simp only [World.size_alloc]); omega)).trans (by first | rfl | (simp; done) | (simp [*]; done))
    have k14_4_2 : w14.cell? ⟨w13.heap.size, 2, none⟩ = some (.slice A13_2q0 k2q0 c13_2q0) := (hb14.cell (p := ⟨w13.heap.size, 2, none⟩) (by show w13.heap.size < _; (try simp only [World.size_alloc]); omega)).trans (by first | rfl | (simp; done) | (simp [*]; done))
    have bl14_0 : w.heap.size < w14.heap.size := World.block_lt_of_cell? _ _ k14_0_0
    have bl14_1 : w3.heap.size < w14.heap.size := World.block_lt_of_cell? _ _ k14_1_0
    have bl14_2 : w4.heap.size < w14.heap.size := World.block_lt_of_cell? _ _ k14_2_0
    have bl14_3 : w5.heap.size < w14.heap.size := World.block_lt_of_cell? _ _ k14_3_0
    have bl14_4 : w13.heap.size < w14.heap.size := World.block_lt_of_cell? _ _ k14_4_0
    have HW1q014 := lay (HW1q013.out.mono hL14)
    have HW2q014 := lay (HW2q013.out.mono hL14)
    have HG1q014 := lay (HG1q013.out.mono hL14)
    have HG2q014 := lay (HG2q013.out.mono hL14)
    have HH1q014 := lay (HH1q013.out.mono hL14)
    have HH2q014 := lay (HH2q013.out.mono hL14)
    clear hb14 hL14
    clear k13_0_0 k13_0_1 k13_0_2 k13_1_0 k13_1_1 k13_1_2 k13_2_0 k13_2_1 k13_2_2 k13_3_0 k13_3_1 k13_3_2 HW1q013 HW2q013 HG1q013 HG2q013 HH1q013 HH2q013
    go_wp2_with (fail)
    refine (heldTableau ?_ ?_ hk1q0 hk2q0 (by decide) (by decide)).mono ?_
    · exact HG1q014.out.rd.mono (by (repeat' (first | (with_reducible exact Below.refl _ _) | (with_reducible assumption) | (with_reducible refine Below.alloc ?_ ?_ _) | (with_reducible refine Below.drew ?_) | (with_reducible refine bdN ?_ _) | (with_reducible refine Below.setCell ?_ ?_ _) | (with_reducible refine chn ?_ (by assumption) ?_) | omega | (simp; done) | (simp; omega))))
    · exact HG2q014.out.rd.mono (by (repeat' (first | (with_reducible exact Below.refl _ _) | (with_reducible assumption) | (with_reducible refine Below.alloc ?_ ?_ _) | (with_reducible refine Below.drew ?_) | (with_reducible refine bdN ?_ _) | (with_reducible refine Below.setCell ?_ ?_ _) | (with_reducible refine chn ?_ (by assumption) ?_) | omega | (simp; done) | (simp; omega))))
    rintro ee w15 ⟨rfl, hb15⟩
    have hL15 : Below w14.heap.size w14 w15 := by (repeat' (first | (with_reducible exact Below.refl _ _) | (with_reducible assumption) | (with_reducible refine Below.alloc ?_ ?_ _) | (with_reducible refine Below.drew ?_) | (with_reducible refine bdN ?_ _) | (with_reducible refine Below.setCell ?_ ?_ _) | (with_reducible refine chn ?_ (by assumption) ?_) | omega | (simp; done) | (simp; omega)))
    have hz15 := hb15.size
    (try simp only [World.size_alloc] at hz15)
    have hB15 : Below w.heap.size w w15 := chn hB14 hL15 hB14.size
    have k15_0_0 : w15.cell? ⟨w.heap.size, 0, none⟩ = some (.int .i64 a0p0) := (hL15.cell (p := ⟨w.heap.size, 0, none⟩) (by show w.heap.size < w14.heap.size; omega)).trans k14_0_0
    have k15_0_1 : w15.cell? ⟨w.heap.size, 1, none⟩ = some (.slice (A1p0) n1p0 c1p0) := (hL15.cell (p := ⟨w.heap.size, 1, none⟩) (by show w.heap.size < w14.heap.size; omega)).trans k14_0_1
    have k15_0_2 : w15.cell? ⟨w.heap.size, 2, none⟩ = some (.slice (A2p0) n2p0 c2p0) := (hL15.cell (p := ⟨w.heap.size, 2, none⟩) (by show w.heap.size < w14.heap.size; omega)).trans k14_0_2
    have k15_1_0 : w15.cell? ⟨w3.heap.size, 0, none⟩ = some (.int .i64 a0q0) := (hL15.cell (p := ⟨w3.heap.size, 0, none⟩) (by show w3.heap.size < w14.heap.size; omega)).trans k14_1_0
    have k15_1_1 : w15.cell? ⟨w3.heap.size, 1, none⟩ = some (.slice A3_1q0 k1q0 c3_1q0) := (hL15.cell (p := ⟨w3.heap.size, 1, none⟩) (by show w3.heap.size < w14.heap.size; omega)).trans k14_1_1
    have k15_1_2 : w15.cell? ⟨w3.heap.size, 2, none⟩ = some (.slice A3_2q0 k2q0 c3_2q0) := (hL15.cell (p := ⟨w3.heap.size, 2, none⟩) (by show w3.heap.size < w14.heap.size; omega)).trans k14_1_2
    have k15_2_0 : w15.cell? ⟨w4.heap.size, 0, none⟩ = some (.int .i64 a0p0) := (hL15.cell (p := ⟨w4.heap.size, 0, none⟩) (by show w4.heap.size < w14.heap.size; omega)).trans k14_2_0
    have k15_2_1 : w15.cell? ⟨w4.heap.size, 1, none⟩ = some (.slice (some ⟨g4_1, 0, none⟩) n1p0 n1p0) := (hL15.cell (p := ⟨w4.heap.size, 1, none⟩) (by show w4.heap.size < w14.heap.size; omega)).trans k14_2_1
    have k15_2_2 : w15.cell? ⟨w4.heap.size, 2, none⟩ = some (.slice (some ⟨g4_2, 0, none⟩) n2p0 n2p0) := (hL15.cell (p := ⟨w4.heap.size, 2, none⟩) (by show w4.heap.size < w14.heap.size; omega)).trans k14_2_2
    have k15_3_0 : w15.cell? ⟨w5.heap.size, 0, none⟩ = some (.int .i64 a0q0) := (hL15.cell (p := ⟨w5.heap.size, 0, none⟩) (by show w5.heap.size < w14.heap.size; omega)).trans k14_3_0
    have k15_3_1 : w15.cell? ⟨w5.heap.size, 1, none⟩ = some (.slice A5_1q0 k1q0 c5_1q0) := (hL15.cell (p := ⟨w5.heap.size, 1, none⟩) (by show w5.heap.size < w14.heap.size; omega)).trans k14_3_1
    have k15_3_2 : w15.cell? ⟨w5.heap.size, 2, none⟩ = some (.slice A5_2q0 k2q0 c5_2q0) := (hL15.cell (p := ⟨w5.heap.size, 2, none⟩) (by show w5.heap.size < w14.heap.size; omega)).trans k14_3_2
    have k15_4_0 : w15.cell? ⟨w13.heap.size, 0, none⟩ = some (.int .i64 a0q0) := (hL15.cell (p := ⟨w13.heap.size, 0, none⟩) (by show w13.heap.size < w14.heap.size; omega)).trans k14_4_0
    have k15_4_1 : w15.cell? ⟨w13.heap.size, 1, none⟩ = some (.slice A13_1q0 k1q0 c13_1q0) := (hL15.cell (p := ⟨w13.heap.size, 1, none⟩) (by show w13.heap.size < w14.heap.size; omega)).trans k14_4_1
    have k15_4_2 : w15.cell? ⟨w13.heap.size, 2, none⟩ = some (.slice A13_2q0 k2q0 c13_2q0) := (hL15.cell (p := ⟨w13.heap.size, 2, none⟩) (by show w13.heap.size < w14.heap.size; omega)).trans k14_4_2
    have bl15_0 : w.heap.size < w15.heap.size := World.block_lt_of_cell? _ _ k15_0_0
    have bl15_1 : w3.heap.size < w15.heap.size := World.block_lt_of_cell? _ _ k15_1_0
    have bl15_2 : w4.heap.size < w15.heap.size := World.block_lt_of_cell? _ _ k15_2_0
    have bl15_3 : w5.heap.size < w15.heap.size := World.block_lt_of_cell? _ _ k15_3_0
    have bl15_4 : w13.heap.size < w15.heap.size := World.block_lt_of_cell? _ _ k15_4_0
    have HW1q015 := lay (HW1q014.out.mono hL15)
    have HW2q015 := lay (HW2q014.out.mono hL15)
    have HG1q015 := lay (HG1q014.out.mono hL15)
    have HG2q015 := lay (HG2q014.out.mono hL15)
    have HH1q015 := lay (HH1q014.out.mono hL15)
    have HH2q015 := lay (HH2q014.out.mono hL15)
    clear hb15 hL15
    clear k14_0_0 k14_0_1 k14_0_2 k14_1_0 k14_1_1 k14_1_2 k14_2_0 k14_2_1 k14_2_2 k14_3_0 k14_3_1 k14_3_2 k14_4_0 k14_4_1 k14_4_2 HW1q014 HW2q014 HG1q014 HG2q014 HH1q014 HH2q014
    go_wp2_with (fail)
    go_ret
    exact ⟨rfl, hB15⟩

theorem fnExactInvertTableau_walk {a0p0 : Int} {A1p0 : Option Addr} {n1p0 c1p0 : Nat} {A2p0 : Option Addr} {n2p0 c2p0 : Nat} {xs1p0 : List PauliV} {xs2p0 : List PauliV} {w : World} (hA1p0 : Rd pauliE w A1p0 xs1p0) (hn1p0 : xs1p0.length = n1p0) (hm1p0 : n1p0 ≤ maxLen) (hA2p0 : Rd pauliE w A2p0 xs2p0) (hn2p0 : xs2p0.length = n2p0) (hm2p0 : n2p0 ≤ maxLen) :
    Calls Try.prog 6 #[(tableauV a0p0 A1p0 n1p0 c1p0 A2p0 n2p0 c2p0)] w fun ee w' => ee = .returned (.bool true) ∧ Below w.heap.size w w' := by
  by_cases hb0 : (n1p0 : Int) + (n2p0 : Int) ≤ 1048576
  · skip
    by_cases hf : TOk a0p0 n1p0 n2p0 xs1p0 xs2p0
    · obtain ⟨n, rfl, rfl, rfl, q1, q5⟩ := TOk_nat hf
      exact lwInvertTableau (a0q0 := (n2p0 : Int)) (k1q0 := n2p0) (zs1q0 := tab n2p0 (invX n2p0 xs1p0 xs2p0)) (k2q0 := n2p0) (zs2q0 := tab n2p0 (invZ n2p0 xs1p0 xs2p0)) (r1 := true) (fun g h w hA hB => inv_s_t q1 q5 hf hA hB hn1p0 hn2p0) (fun g h w hA hB => inv_i_t q1 q5 hf hA hB hn1p0 hn2p0) (tab_len _ _) (by omega) (tab_len _ _) (by omega) hA1p0 hn1p0 (by omega) hA2p0 hn2p0 (by omega)
    · exact lwInvertTableau (a0q0 := 0) (k1q0 := 0) (zs1q0 := []) (k2q0 := 0) (zs2q0 := []) (r1 := false) (fun g h w hA hB => (inv_s_f hf hA hB hn1p0 hn2p0 hm1p0 hm2p0).mono fun ee w' h => ⟨none, 0, none, 0, h.1, ⟨Rd.nil _ _, fun a ha => by cases ha⟩, ⟨Rd.nil _ _, fun a ha => by cases ha⟩, h.2⟩) (fun g h w hA hB => (inv_i_f hf hA hB hn1p0 hn2p0 hm1p0 hm2p0).mono fun ee w' h => ⟨none, 0, none, 0, h.1, Ow.none, Ow.none, (fun r h => by cases h), h.2⟩) rfl (by omega) rfl (by omega) hA1p0 hn1p0 (by omega) hA2p0 hn2p0 (by omega)
  · exact bigInvertTableau0  (by omega) hm1p0 hm2p0

end Go.Proofs.Ytjedpeoafpljhaa.C4
