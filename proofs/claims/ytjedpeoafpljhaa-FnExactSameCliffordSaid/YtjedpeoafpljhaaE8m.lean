/- The tableau of a gate: the program, all kinds but the swap. -/
import Derived.Test.YtjedpeoafpljhaaPgd
import Derived.Test.YtjedpeoafpljhaaPap
namespace Go.Proofs.Ytjedpeoafpljhaa.C4
open Go.RowKit
set_option linter.unusedVariables false
set_option linter.unusedSimpArgs false
attribute [local irreducible] World.setCell

open GM
set_option maxRecDepth 100000 in
set_option maxHeartbeats 4000000 in
theorem gti_1 {n a b : Nat} (q1 : 1 ≤ n) (q5 : n ≤ 5) (ha : a < n) (hb : b < n) (w : World) :
    Calls Try.prog 90 #[.int .i64 (n : Int), .agg #[.int .i64 1, .int .i64 (a : Int), .int .i64 (b : Int)]] w fun ee w' => ∃ gx gz : Nat, ee = .returned (tableauV n (some ⟨gx, 0, none⟩) n n (some ⟨gz, 0, none⟩) n n) ∧ Bk pauliE w' gx 43 (tab n (gtX 1 a b)) ∧ Bk pauliE w' gz 43 (tab n (gtZ 1 a b)) ∧ w.heap.size ≤ gx ∧ w.heap.size ≤ gz ∧ gx ≠ gz ∧ Below w.heap.size w w' := by
  have al : (a : Int) < (n : Int) := by omega
  have bl : (b : Int) < (n : Int) := by omega
  go_enter Try.func90, Try.ntmps90
  go_wp2_with (fail)
  refine (idt q1 q5 _).mono ?_
  rintro ee w1 ⟨gx, gz, rfl, hK1, hK2, hg1, hg2, hne, hb1⟩
  have hz1 := hb1.size
  (try simp only [World.size_alloc] at hz1 hg1 hg2)
  have Xg : Bb w1 w.heap.size 116 #[.int .i64 1, .int .i64 (a : Int), .int .i64 (b : Int)] := by (repeat' (first | (with_reducible assumption) | (refine Bb.new (by first | (with_reducible rfl) | (simp; done))) | (with_reducible refine Bb.alloc ?_ _) | (with_reducible refine Bb.drew ?_) | (with_reducible refine Bb.drewN ?_ _) | (with_reducible refine Bb.mono ?_ (by assumption)) | (with_reducible refine Bb.far ?_ (by (try simp only [World.size_alloc, World.size_drew]); omega)) | (with_reducible refine Bb.set ?_ rfl) | (with_reducible refine Bb.grown ?_ (by assumption) (by assumption))))
  have k0 := Xg.c 0 rfl
  have k1 := Xg.c 1 rfl
  have k2 := Xg.c 2 rfl
  have lk := Xg.lt
  have Xt : Bb w1 (w.heap.size + 1) 53 #[.int .i64 0, .slice none 0 0, .slice none 0 0] := by (repeat' (first | (with_reducible assumption) | (refine Bb.new (by first | (with_reducible rfl) | (simp; done))) | (with_reducible refine Bb.alloc ?_ _) | (with_reducible refine Bb.drew ?_) | (with_reducible refine Bb.drewN ?_ _) | (with_reducible refine Bb.mono ?_ (by assumption)) | (with_reducible refine Bb.far ?_ (by (try simp only [World.size_alloc, World.size_drew]); omega)) | (with_reducible refine Bb.set ?_ rfl) | (with_reducible refine Bb.grown ?_ (by assumption) (by assumption))))
  have t0 := Xt.c 0 rfl
  have t1 := Xt.c 1 rfl
  have t2 := Xt.c 2 rfl
  have lt := Xt.lt
  have tf := Xt.f
  have hB1 : Below w.heap.size w w1 := by (repeat' (first | (with_reducible exact Below.refl _ _) | (with_reducible assumption) | (with_reducible refine Below.alloc ?_ ?_ _) | (with_reducible refine Below.drew ?_) | (with_reducible refine bdN ?_ _) | (with_reducible refine Below.setCell ?_ ?_ _) | (with_reducible refine chn ?_ (by assumption) ?_) | omega | (simp; done) | (simp; omega)))
  have fx := hK1.fr
  have fz := hK2.fr
  obtain ⟨x0, x1, x2⟩ := Bk.atPauli (k := a) (x := genX a) hK1 (tab_get ha)
  obtain ⟨z0, z1, z2⟩ := Bk.atPauli (k := a) (x := genZ a) hK2 (tab_get ha)
  obtain ⟨p0, p1, p2⟩ := Bk.atPauli (k := b) (x := genX b) hK1 (tab_get hb)
  obtain ⟨r0, r1, r2⟩ := Bk.atPauli (k := b) (x := genZ b) hK2 (tab_get hb)
  have lx := hK1.lt
  have lz := hK2.lt
  have HK1 := lay hK1
  have HK2 := lay hK2
  clear hb1 hK1 hK2
  have e1 := pw_w (show a ≤ 5 by omega)
  have e2 := pw_k (show a ≤ 5 by omega)
  have e3 := pw_w (show b ≤ 5 by omega)
  have e4 := pw_k (show b ≤ 5 by omega)
  have a1 : IntKind.i64.wrap ((a : Int)) = (a : Int) := IntWalk.i64_in _ (by omega)
  have a2 : IntKind.i64.wrap ((b : Int)) = (b : Int) := IntWalk.i64_in _ (by omega)
  go_wp2_with (fail)
  go_region
  go_wp2_with (fail)
  go_region
  go_upto_region 25 with (fail)
  (repeat (first | go_values | go_skip | go_guarded | go_step | go_upon))
  refine bodyPost_ret (v := tableauV n (some ⟨gx, 0, none⟩) n n (some ⟨gz, 0, none⟩) n n) (by first | (simp [results, Try.results90, go_sem, *]; done) | (simp (disch := (first | omega | (simp; done) | (simp; omega))) [results, Try.results90, go_sem, *]; done) | (simp only [results, Try.results90]; go_simp; done)) rfl ⟨gx, gz, rfl, ?_, ?_, by omega, by omega, hne, ?_⟩
  · rw [show tab n (gtX 1 a b) = (tab n genX).set a (genZ a) from (tab_set (by simp [gtX]) (fun q h1 h2 => by simp [gtX, h2])).symm]; (repeat (with_reducible refine Bk.drew ?_)); refine Bk.alloc ?_ _; refine Bk.far ?_ (by show gx ≠ w.heap.size + 1; omega) _; refine Bk.far ?_ (by show gx ≠ w.heap.size + 1; omega) _; refine Bk.far ?_ (by show gx ≠ w.heap.size + 1; omega) _; refine Bk.far ?_ (by show gx ≠ gz; omega) _; refine Bk.far ?_ (by show gx ≠ gz; omega) _; refine Bk.far ?_ (by show gx ≠ gz; omega) _; refine Bk.stPauli (xs := (tab n genX)) (k := a) ?_ (genZ a) (by rw [tab_len]; exact ha); exact HK1.out
  · rw [show tab n (gtZ 1 a b) = (tab n genZ).set a (genX a) from (tab_set (by simp [gtZ]) (fun q h1 h2 => by simp [gtZ, h2])).symm]; (repeat (with_reducible refine Bk.drew ?_)); refine Bk.alloc ?_ _; refine Bk.far ?_ (by show gz ≠ w.heap.size + 1; omega) _; refine Bk.far ?_ (by show gz ≠ w.heap.size + 1; omega) _; refine Bk.far ?_ (by show gz ≠ w.heap.size + 1; omega) _; refine Bk.stPauli (xs := (tab n genZ)) (k := a) ?_ (genX a) (by rw [tab_len]; exact ha); refine Bk.far ?_ (by show gz ≠ gx; omega) _; refine Bk.far ?_ (by show gz ≠ gx; omega) _; refine Bk.far ?_ (by show gz ≠ gx; omega) _; exact HK2.out
  · (repeat' (first | (with_reducible exact Below.refl _ _) | (with_reducible assumption) | (with_reducible refine Below.alloc ?_ ?_ _) | (with_reducible refine Below.drew ?_) | (with_reducible refine bdN ?_ _) | (with_reducible refine Below.setCell ?_ ?_ _) | (with_reducible refine chn ?_ (by assumption) ?_) | omega | (simp; done) | (simp; omega)))

set_option maxRecDepth 100000 in
set_option maxHeartbeats 4000000 in
theorem gti_2 {n a b : Nat} (q1 : 1 ≤ n) (q5 : n ≤ 5) (ha : a < n) (hb : b < n) (w : World) :
    Calls Try.prog 90 #[.int .i64 (n : Int), .agg #[.int .i64 2, .int .i64 (a : Int), .int .i64 (b : Int)]] w fun ee w' => ∃ gx gz : Nat, ee = .returned (tableauV n (some ⟨gx, 0, none⟩) n n (some ⟨gz, 0, none⟩) n n) ∧ Bk pauliE w' gx 43 (tab n (gtX 2 a b)) ∧ Bk pauliE w' gz 43 (tab n (gtZ 2 a b)) ∧ w.heap.size ≤ gx ∧ w.heap.size ≤ gz ∧ gx ≠ gz ∧ Below w.heap.size w w' := by
  have al : (a : Int) < (n : Int) := by omega
  have bl : (b : Int) < (n : Int) := by omega
  go_enter Try.func90, Try.ntmps90
  go_wp2_with (fail)
  refine (idt q1 q5 _).mono ?_
  rintro ee w1 ⟨gx, gz, rfl, hK1, hK2, hg1, hg2, hne, hb1⟩
  have hz1 := hb1.size
  (try simp only [World.size_alloc] at hz1 hg1 hg2)
  have Xg : Bb w1 w.heap.size 116 #[.int .i64 2, .int .i64 (a : Int), .int .i64 (b : Int)] := by (repeat' (first | (with_reducible assumption) | (refine Bb.new (by first | (with_reducible rfl) | (simp; done))) | (with_reducible refine Bb.alloc ?_ _) | (with_reducible refine Bb.drew ?_) | (with_reducible refine Bb.drewN ?_ _) | (with_reducible refine Bb.mono ?_ (by assumption)) | (with_reducible refine Bb.far ?_ (by (try simp only [World.size_alloc, World.size_drew]); omega)) | (with_reducible refine Bb.set ?_ rfl) | (with_reducible refine Bb.grown ?_ (by assumption) (by assumption))))
  have k0 := Xg.c 0 rfl
  have k1 := Xg.c 1 rfl
  have k2 := Xg.c 2 rfl
  have lk := Xg.lt
  have Xt : Bb w1 (w.heap.size + 1) 53 #[.int .i64 0, .slice none 0 0, .slice none 0 0] := by (repeat' (first | (with_reducible assumption) | (refine Bb.new (by first | (with_reducible rfl) | (simp; done))) | (with_reducible refine Bb.alloc ?_ _) | (with_reducible refine Bb.drew ?_) | (with_reducible refine Bb.drewN ?_ _) | (with_reducible refine Bb.mono ?_ (by assumption)) | (with_reducible refine Bb.far ?_ (by (try simp only [World.size_alloc, World.size_drew]); omega)) | (with_reducible refine Bb.set ?_ rfl) | (with_reducible refine Bb.grown ?_ (by assumption) (by assumption))))
  have t0 := Xt.c 0 rfl
  have t1 := Xt.c 1 rfl
  have t2 := Xt.c 2 rfl
  have lt := Xt.lt
  have tf := Xt.f
  have hB1 : Below w.heap.size w w1 := by (repeat' (first | (with_reducible exact Below.refl _ _) | (with_reducible assumption) | (with_reducible refine Below.alloc ?_ ?_ _) | (with_reducible refine Below.drew ?_) | (with_reducible refine bdN ?_ _) | (with_reducible refine Below.setCell ?_ ?_ _) | (with_reducible refine chn ?_ (by assumption) ?_) | omega | (simp; done) | (simp; omega)))
  have fx := hK1.fr
  have fz := hK2.fr
  obtain ⟨x0, x1, x2⟩ := Bk.atPauli (k := a) (x := genX a) hK1 (tab_get ha)
  obtain ⟨z0, z1, z2⟩ := Bk.atPauli (k := a) (x := genZ a) hK2 (tab_get ha)
  obtain ⟨p0, p1, p2⟩ := Bk.atPauli (k := b) (x := genX b) hK1 (tab_get hb)
  obtain ⟨r0, r1, r2⟩ := Bk.atPauli (k := b) (x := genZ b) hK2 (tab_get hb)
  have lx := hK1.lt
  have lz := hK2.lt
  have HK1 := lay hK1
  have HK2 := lay hK2
  clear hb1 hK1 hK2
  have e1 := pw_w (show a ≤ 5 by omega)
  have e2 := pw_k (show a ≤ 5 by omega)
  have e3 := pw_w (show b ≤ 5 by omega)
  have e4 := pw_k (show b ≤ 5 by omega)
  have a1 : IntKind.i64.wrap ((a : Int)) = (a : Int) := IntWalk.i64_in _ (by omega)
  have a2 : IntKind.i64.wrap ((b : Int)) = (b : Int) := IntWalk.i64_in _ (by omega)
  go_wp2_with (fail)
  go_region
  go_upto_region 25 with (fail)
  (repeat (first | go_values | go_skip | go_guarded | go_step | go_upon))
  refine bodyPost_ret (v := tableauV n (some ⟨gx, 0, none⟩) n n (some ⟨gz, 0, none⟩) n n) (by first | (simp [results, Try.results90, go_sem, *]; done) | (simp (disch := (first | omega | (simp; done) | (simp; omega))) [results, Try.results90, go_sem, *]; done) | (simp only [results, Try.results90]; go_simp; done)) rfl ⟨gx, gz, rfl, ?_, ?_, by omega, by omega, hne, ?_⟩
  · show Bk _ _ _ _ (tab n genX); (repeat (with_reducible refine Bk.drew ?_)); refine Bk.alloc ?_ _; refine Bk.far ?_ (by show gx ≠ w.heap.size + 1; omega) _; refine Bk.far ?_ (by show gx ≠ w.heap.size + 1; omega) _; refine Bk.far ?_ (by show gx ≠ w.heap.size + 1; omega) _; refine Bk.far ?_ (by show gx ≠ gz; omega) _; exact HK1.out
  · rw [show tab n (gtZ 2 a b) = (tab n genZ).set a (pv 2 0 (2 ^ a)) from (tab_set (by simp [gtZ]) (fun q h1 h2 => by simp [gtZ, h2])).symm]; (repeat (with_reducible refine Bk.drew ?_)); refine Bk.alloc ?_ _; refine Bk.far ?_ (by show gz ≠ w.heap.size + 1; omega) _; refine Bk.far ?_ (by show gz ≠ w.heap.size + 1; omega) _; refine Bk.far ?_ (by show gz ≠ w.heap.size + 1; omega) _; refine Bk.set1 (E := pauliE) (i := 0) (x := genZ a) (y := pv 2 0 (2 ^ a)) ?_ (tab_get ha) (by decide) rfl (by rfl); exact HK2.out
  · (repeat' (first | (with_reducible exact Below.refl _ _) | (with_reducible assumption) | (with_reducible refine Below.alloc ?_ ?_ _) | (with_reducible refine Below.drew ?_) | (with_reducible refine bdN ?_ _) | (with_reducible refine Below.setCell ?_ ?_ _) | (with_reducible refine chn ?_ (by assumption) ?_) | omega | (simp; done) | (simp; omega)))

set_option maxRecDepth 100000 in
set_option maxHeartbeats 4000000 in
theorem gti_3 {n a b : Nat} (q1 : 1 ≤ n) (q5 : n ≤ 5) (ha : a < n) (hb : b < n) (w : World) :
    Calls Try.prog 90 #[.int .i64 (n : Int), .agg #[.int .i64 3, .int .i64 (a : Int), .int .i64 (b : Int)]] w fun ee w' => ∃ gx gz : Nat, ee = .returned (tableauV n (some ⟨gx, 0, none⟩) n n (some ⟨gz, 0, none⟩) n n) ∧ Bk pauliE w' gx 43 (tab n (gtX 3 a b)) ∧ Bk pauliE w' gz 43 (tab n (gtZ 3 a b)) ∧ w.heap.size ≤ gx ∧ w.heap.size ≤ gz ∧ gx ≠ gz ∧ Below w.heap.size w w' := by
  have al : (a : Int) < (n : Int) := by omega
  have bl : (b : Int) < (n : Int) := by omega
  go_enter Try.func90, Try.ntmps90
  go_wp2_with (fail)
  refine (idt q1 q5 _).mono ?_
  rintro ee w1 ⟨gx, gz, rfl, hK1, hK2, hg1, hg2, hne, hb1⟩
  have hz1 := hb1.size
  (try simp only [World.size_alloc] at hz1 hg1 hg2)
  have Xg : Bb w1 w.heap.size 116 #[.int .i64 3, .int .i64 (a : Int), .int .i64 (b : Int)] := by (repeat' (first | (with_reducible assumption) | (refine Bb.new (by first | (with_reducible rfl) | (simp; done))) | (with_reducible refine Bb.alloc ?_ _) | (with_reducible refine Bb.drew ?_) | (with_reducible refine Bb.drewN ?_ _) | (with_reducible refine Bb.mono ?_ (by assumption)) | (with_reducible refine Bb.far ?_ (by (try simp only [World.size_alloc, World.size_drew]); omega)) | (with_reducible refine Bb.set ?_ rfl) | (with_reducible refine Bb.grown ?_ (by assumption) (by assumption))))
  have k0 := Xg.c 0 rfl
  have k1 := Xg.c 1 rfl
  have k2 := Xg.c 2 rfl
  have lk := Xg.lt
  have Xt : Bb w1 (w.heap.size + 1) 53 #[.int .i64 0, .slice none 0 0, .slice none 0 0] := by (repeat' (first | (with_reducible assumption) | (refine Bb.new (by first | (with_reducible rfl) | (simp; done))) | (with_reducible refine Bb.alloc ?_ _) | (with_reducible refine Bb.drew ?_) | (with_reducible refine Bb.drewN ?_ _) | (with_reducible refine Bb.mono ?_ (by assumption)) | (with_reducible refine Bb.far ?_ (by (try simp only [World.size_alloc, World.size_drew]); omega)) | (with_reducible refine Bb.set ?_ rfl) | (with_reducible refine Bb.grown ?_ (by assumption) (by assumption))))
  have t0 := Xt.c 0 rfl
  have t1 := Xt.c 1 rfl
  have t2 := Xt.c 2 rfl
  have lt := Xt.lt
  have tf := Xt.f
  have hB1 : Below w.heap.size w w1 := by (repeat' (first | (with_reducible exact Below.refl _ _) | (with_reducible assumption) | (with_reducible refine Below.alloc ?_ ?_ _) | (with_reducible refine Below.drew ?_) | (with_reducible refine bdN ?_ _) | (with_reducible refine Below.setCell ?_ ?_ _) | (with_reducible refine chn ?_ (by assumption) ?_) | omega | (simp; done) | (simp; omega)))
  have fx := hK1.fr
  have fz := hK2.fr
  obtain ⟨x0, x1, x2⟩ := Bk.atPauli (k := a) (x := genX a) hK1 (tab_get ha)
  obtain ⟨z0, z1, z2⟩ := Bk.atPauli (k := a) (x := genZ a) hK2 (tab_get ha)
  obtain ⟨p0, p1, p2⟩ := Bk.atPauli (k := b) (x := genX b) hK1 (tab_get hb)
  obtain ⟨r0, r1, r2⟩ := Bk.atPauli (k := b) (x := genZ b) hK2 (tab_get hb)
  have lx := hK1.lt
  have lz := hK2.lt
  have HK1 := lay hK1
  have HK2 := lay hK2
  clear hb1 hK1 hK2
  have e1 := pw_w (show a ≤ 5 by omega)
  have e2 := pw_k (show a ≤ 5 by omega)
  have e3 := pw_w (show b ≤ 5 by omega)
  have e4 := pw_k (show b ≤ 5 by omega)
  have a1 : IntKind.i64.wrap ((a : Int)) = (a : Int) := IntWalk.i64_in _ (by omega)
  have a2 : IntKind.i64.wrap ((b : Int)) = (b : Int) := IntWalk.i64_in _ (by omega)
  go_wp2_with (fail)
  go_region
  go_wp2_with (fail)
  go_region
  go_upto_region 25 with (fail)
  (repeat (first | go_values | go_skip | go_guarded | go_step | go_upon))
  refine bodyPost_ret (v := tableauV n (some ⟨gx, 0, none⟩) n n (some ⟨gz, 0, none⟩) n n) (by first | (simp [results, Try.results90, go_sem, *]; done) | (simp (disch := (first | omega | (simp; done) | (simp; omega))) [results, Try.results90, go_sem, *]; done) | (simp only [results, Try.results90]; go_simp; done)) rfl ⟨gx, gz, rfl, ?_, ?_, by omega, by omega, hne, ?_⟩
  · rw [show tab n (gtX 3 a b) = (tab n genX).set a (pv 2 (2 ^ a) 0) from (tab_set (by simp [gtX]) (fun q h1 h2 => by simp [gtX, h2])).symm]; (repeat (with_reducible refine Bk.drew ?_)); refine Bk.alloc ?_ _; refine Bk.far ?_ (by show gx ≠ w.heap.size + 1; omega) _; refine Bk.far ?_ (by show gx ≠ w.heap.size + 1; omega) _; refine Bk.far ?_ (by show gx ≠ w.heap.size + 1; omega) _; refine Bk.far ?_ (by show gx ≠ gz; omega) _; refine Bk.set1 (E := pauliE) (i := 0) (x := genX a) (y := pv 2 (2 ^ a) 0) ?_ (tab_get ha) (by decide) rfl (by rfl); exact HK1.out
  · rw [show tab n (gtZ 3 a b) = (tab n genZ).set a (pv 2 0 (2 ^ a)) from (tab_set (by simp [gtZ]) (fun q h1 h2 => by simp [gtZ, h2])).symm]; (repeat (with_reducible refine Bk.drew ?_)); refine Bk.alloc ?_ _; refine Bk.far ?_ (by show gz ≠ w.heap.size + 1; omega) _; refine Bk.far ?_ (by show gz ≠ w.heap.size + 1; omega) _; refine Bk.far ?_ (by show gz ≠ w.heap.size + 1; omega) _; refine Bk.set1 (E := pauliE) (i := 0) (x := genZ a) (y := pv 2 0 (2 ^ a)) ?_ (tab_get ha) (by decide) rfl (by rfl); refine Bk.far ?_ (by show gz ≠ gx; omega) _; exact HK2.out
  · (repeat' (first | (with_reducible exact Below.refl _ _) | (with_reducible assumption) | (with_reducible refine Below.alloc ?_ ?_ _) | (with_reducible refine Below.drew ?_) | (with_reducible refine bdN ?_ _) | (with_reducible refine Below.setCell ?_ ?_ _) | (with_reducible refine chn ?_ (by assumption) ?_) | omega | (simp; done) | (simp; omega)))

set_option maxRecDepth 100000 in
set_option maxHeartbeats 4000000 in
theorem gti_4 {n a b : Nat} (q1 : 1 ≤ n) (q5 : n ≤ 5) (ha : a < n) (hb : b < n) (w : World) :
    Calls Try.prog 90 #[.int .i64 (n : Int), .agg #[.int .i64 4, .int .i64 (a : Int), .int .i64 (b : Int)]] w fun ee w' => ∃ gx gz : Nat, ee = .returned (tableauV n (some ⟨gx, 0, none⟩) n n (some ⟨gz, 0, none⟩) n n) ∧ Bk pauliE w' gx 43 (tab n (gtX 4 a b)) ∧ Bk pauliE w' gz 43 (tab n (gtZ 4 a b)) ∧ w.heap.size ≤ gx ∧ w.heap.size ≤ gz ∧ gx ≠ gz ∧ Below w.heap.size w w' := by
  have al : (a : Int) < (n : Int) := by omega
  have bl : (b : Int) < (n : Int) := by omega
  go_enter Try.func90, Try.ntmps90
  go_wp2_with (fail)
  refine (idt q1 q5 _).mono ?_
  rintro ee w1 ⟨gx, gz, rfl, hK1, hK2, hg1, hg2, hne, hb1⟩
  have hz1 := hb1.size
  (try simp only [World.size_alloc] at hz1 hg1 hg2)
  have Xg : Bb w1 w.heap.size 116 #[.int .i64 4, .int .i64 (a : Int), .int .i64 (b : Int)] := by (repeat' (first | (with_reducible assumption) | (refine Bb.new (by first | (with_reducible rfl) | (simp; done))) | (with_reducible refine Bb.alloc ?_ _) | (with_reducible refine Bb.drew ?_) | (with_reducible refine Bb.drewN ?_ _) | (with_reducible refine Bb.mono ?_ (by assumption)) | (with_reducible refine Bb.far ?_ (by (try simp only [World.size_alloc, World.size_drew]); omega)) | (with_reducible refine Bb.set ?_ rfl) | (with_reducible refine Bb.grown ?_ (by assumption) (by assumption))))
  have k0 := Xg.c 0 rfl
  have k1 := Xg.c 1 rfl
  have k2 := Xg.c 2 rfl
  have lk := Xg.lt
  have Xt : Bb w1 (w.heap.size + 1) 53 #[.int .i64 0, .slice none 0 0, .slice none 0 0] := by (repeat' (first | (with_reducible assumption) | (refine Bb.new (by first | (with_reducible rfl) | (simp; done))) | (with_reducible refine Bb.alloc ?_ _) | (with_reducible refine Bb.drew ?_) | (with_reducible refine Bb.drewN ?_ _) | (with_reducible refine Bb.mono ?_ (by assumption)) | (with_reducible refine Bb.far ?_ (by (try simp only [World.size_alloc, World.size_drew]); omega)) | (with_reducible refine Bb.set ?_ rfl) | (with_reducible refine Bb.grown ?_ (by assumption) (by assumption))))
  have t0 := Xt.c 0 rfl
  have t1 := Xt.c 1 rfl
  have t2 := Xt.c 2 rfl
  have lt := Xt.lt
  have tf := Xt.f
  have hB1 : Below w.heap.size w w1 := by (repeat' (first | (with_reducible exact Below.refl _ _) | (with_reducible assumption) | (with_reducible refine Below.alloc ?_ ?_ _) | (with_reducible refine Below.drew ?_) | (with_reducible refine bdN ?_ _) | (with_reducible refine Below.setCell ?_ ?_ _) | (with_reducible refine chn ?_ (by assumption) ?_) | omega | (simp; done) | (simp; omega)))
  have fx := hK1.fr
  have fz := hK2.fr
  obtain ⟨x0, x1, x2⟩ := Bk.atPauli (k := a) (x := genX a) hK1 (tab_get ha)
  obtain ⟨z0, z1, z2⟩ := Bk.atPauli (k := a) (x := genZ a) hK2 (tab_get ha)
  obtain ⟨p0, p1, p2⟩ := Bk.atPauli (k := b) (x := genX b) hK1 (tab_get hb)
  obtain ⟨r0, r1, r2⟩ := Bk.atPauli (k := b) (x := genZ b) hK2 (tab_get hb)
  have lx := hK1.lt
  have lz := hK2.lt
  have HK1 := lay hK1
  have HK2 := lay hK2
  clear hb1 hK1 hK2
  have e1 := pw_w (show a ≤ 5 by omega)
  have e2 := pw_k (show a ≤ 5 by omega)
  have e3 := pw_w (show b ≤ 5 by omega)
  have e4 := pw_k (show b ≤ 5 by omega)
  have a1 : IntKind.i64.wrap ((a : Int)) = (a : Int) := IntWalk.i64_in _ (by omega)
  have a2 : IntKind.i64.wrap ((b : Int)) = (b : Int) := IntWalk.i64_in _ (by omega)
  go_wp2_with (fail)
  go_region
  go_upto_region 25 with (fail)
  (repeat (first | go_values | go_skip | go_guarded | go_step | go_upon))
  refine bodyPost_ret (v := tableauV n (some ⟨gx, 0, none⟩) n n (some ⟨gz, 0, none⟩) n n) (by first | (simp [results, Try.results90, go_sem, *]; done) | (simp (disch := (first | omega | (simp; done) | (simp; omega))) [results, Try.results90, go_sem, *]; done) | (simp only [results, Try.results90]; go_simp; done)) rfl ⟨gx, gz, rfl, ?_, ?_, by omega, by omega, hne, ?_⟩
  · rw [show tab n (gtX 4 a b) = (tab n genX).set a (pv 2 (2 ^ a) 0) from (tab_set (by simp [gtX]) (fun q h1 h2 => by simp [gtX, h2])).symm]; (repeat (with_reducible refine Bk.drew ?_)); refine Bk.alloc ?_ _; refine Bk.far ?_ (by show gx ≠ w.heap.size + 1; omega) _; refine Bk.far ?_ (by show gx ≠ w.heap.size + 1; omega) _; refine Bk.far ?_ (by show gx ≠ w.heap.size + 1; omega) _; refine Bk.set1 (E := pauliE) (i := 0) (x := genX a) (y := pv 2 (2 ^ a) 0) ?_ (tab_get ha) (by decide) rfl (by rfl); exact HK1.out
  · show Bk _ _ _ _ (tab n genZ); (repeat (with_reducible refine Bk.drew ?_)); refine Bk.alloc ?_ _; refine Bk.far ?_ (by show gz ≠ w.heap.size + 1; omega) _; refine Bk.far ?_ (by show gz ≠ w.heap.size + 1; omega) _; refine Bk.far ?_ (by show gz ≠ w.heap.size + 1; omega) _; refine Bk.far ?_ (by show gz ≠ gx; omega) _; exact HK2.out
  · (repeat' (first | (with_reducible exact Below.refl _ _) | (with_reducible assumption) | (with_reducible refine Below.alloc ?_ ?_ _) | (with_reducible refine Below.drew ?_) | (with_reducible refine bdN ?_ _) | (with_reducible refine Below.setCell ?_ ?_ _) | (with_reducible refine chn ?_ (by assumption) ?_) | omega | (simp; done) | (simp; omega)))

set_option maxRecDepth 100000 in
set_option maxHeartbeats 4000000 in
theorem gti_5 {n a b : Nat} (q1 : 1 ≤ n) (q5 : n ≤ 5) (ha : a < n) (hb : b < n) (w : World) :
    Calls Try.prog 90 #[.int .i64 (n : Int), .agg #[.int .i64 5, .int .i64 (a : Int), .int .i64 (b : Int)]] w fun ee w' => ∃ gx gz : Nat, ee = .returned (tableauV n (some ⟨gx, 0, none⟩) n n (some ⟨gz, 0, none⟩) n n) ∧ Bk pauliE w' gx 43 (tab n (gtX 5 a b)) ∧ Bk pauliE w' gz 43 (tab n (gtZ 5 a b)) ∧ w.heap.size ≤ gx ∧ w.heap.size ≤ gz ∧ gx ≠ gz ∧ Below w.heap.size w w' := by
  have al : (a : Int) < (n : Int) := by omega
  have bl : (b : Int) < (n : Int) := by omega
  go_enter Try.func90, Try.ntmps90
  go_wp2_with (fail)
  refine (idt q1 q5 _).mono ?_
  rintro ee w1 ⟨gx, gz, rfl, hK1, hK2, hg1, hg2, hne, hb1⟩
  have hz1 := hb1.size
  (try simp only [World.size_alloc] at hz1 hg1 hg2)
  have Xg : Bb w1 w.heap.size 116 #[.int .i64 5, .int .i64 (a : Int), .int .i64 (b : Int)] := by (repeat' (first | (with_reducible assumption) | (refine Bb.new (by first | (with_reducible rfl) | (simp; done))) | (with_reducible refine Bb.alloc ?_ _) | (with_reducible refine Bb.drew ?_) | (with_reducible refine Bb.drewN ?_ _) | (with_reducible refine Bb.mono ?_ (by assumption)) | (with_reducible refine Bb.far ?_ (by (try simp only [World.size_alloc, World.size_drew]); omega)) | (with_reducible refine Bb.set ?_ rfl) | (with_reducible refine Bb.grown ?_ (by assumption) (by assumption))))
  have k0 := Xg.c 0 rfl
  have k1 := Xg.c 1 rfl
  have k2 := Xg.c 2 rfl
  have lk := Xg.lt
  have Xt : Bb w1 (w.heap.size + 1) 53 #[.int .i64 0, .slice none 0 0, .slice none 0 0] := by (repeat' (first | (with_reducible assumption) | (refine Bb.new (by first | (with_reducible rfl) | (simp; done))) | (with_reducible refine Bb.alloc ?_ _) | (with_reducible refine Bb.drew ?_) | (with_reducible refine Bb.drewN ?_ _) | (with_reducible refine Bb.mono ?_ (by assumption)) | (with_reducible refine Bb.far ?_ (by (try simp only [World.size_alloc, World.size_drew]); omega)) | (with_reducible refine Bb.set ?_ rfl) | (with_reducible refine Bb.grown ?_ (by assumption) (by assumption))))
  have t0 := Xt.c 0 rfl
  have t1 := Xt.c 1 rfl
  have t2 := Xt.c 2 rfl
  have lt := Xt.lt
  have tf := Xt.f
  have hB1 : Below w.heap.size w w1 := by (repeat' (first | (with_reducible exact Below.refl _ _) | (with_reducible assumption) | (with_reducible refine Below.alloc ?_ ?_ _) | (with_reducible refine Below.drew ?_) | (with_reducible refine bdN ?_ _) | (with_reducible refine Below.setCell ?_ ?_ _) | (with_reducible refine chn ?_ (by assumption) ?_) | omega | (simp; done) | (simp; omega)))
  have fx := hK1.fr
  have fz := hK2.fr
  obtain ⟨x0, x1, x2⟩ := Bk.atPauli (k := a) (x := genX a) hK1 (tab_get ha)
  obtain ⟨z0, z1, z2⟩ := Bk.atPauli (k := a) (x := genZ a) hK2 (tab_get ha)
  obtain ⟨p0, p1, p2⟩ := Bk.atPauli (k := b) (x := genX b) hK1 (tab_get hb)
  obtain ⟨r0, r1, r2⟩ := Bk.atPauli (k := b) (x := genZ b) hK2 (tab_get hb)
  have lx := hK1.lt
  have lz := hK2.lt
  have HK1 := lay hK1
  have HK2 := lay hK2
  clear hb1 hK1 hK2
  have e1 := pw_w (show a ≤ 5 by omega)
  have e2 := pw_k (show a ≤ 5 by omega)
  have e3 := pw_w (show b ≤ 5 by omega)
  have e4 := pw_k (show b ≤ 5 by omega)
  have a1 : IntKind.i64.wrap ((a : Int)) = (a : Int) := IntWalk.i64_in _ (by omega)
  have a2 : IntKind.i64.wrap ((b : Int)) = (b : Int) := IntWalk.i64_in _ (by omega)
  go_wp2_with (fail)
  go_region
  go_wp2_with (fail)
  go_region
  go_upto_region 25 with (fail)
  (repeat (first | go_values | go_skip | go_guarded | go_step | go_upon))
  refine bodyPost_ret (v := tableauV n (some ⟨gx, 0, none⟩) n n (some ⟨gz, 0, none⟩) n n) (by first | (simp [results, Try.results90, go_sem, *]; done) | (simp (disch := (first | omega | (simp; done) | (simp; omega))) [results, Try.results90, go_sem, *]; done) | (simp only [results, Try.results90]; go_simp; done)) rfl ⟨gx, gz, rfl, ?_, ?_, by omega, by omega, hne, ?_⟩
  · rw [show tab n (gtX 5 a b) = (tab n genX).set a (pv 0 (2 ^ a) (2 ^ a)) from (tab_set (by simp [gtX]) (fun q h1 h2 => by simp [gtX, h2])).symm]; (repeat (with_reducible refine Bk.drew ?_)); refine Bk.alloc ?_ _; refine Bk.far ?_ (by show gx ≠ w.heap.size + 1; omega) _; refine Bk.far ?_ (by show gx ≠ w.heap.size + 1; omega) _; refine Bk.far ?_ (by show gx ≠ w.heap.size + 1; omega) _; refine Bk.set1 (E := pauliE) (i := 2) (x := genX a) (y := pv 0 (2 ^ a) (2 ^ a)) ?_ (tab_get ha) (by decide) rfl (by rfl); exact HK1.out
  · show Bk _ _ _ _ (tab n genZ); (repeat (with_reducible refine Bk.drew ?_)); refine Bk.alloc ?_ _; refine Bk.far ?_ (by show gz ≠ w.heap.size + 1; omega) _; refine Bk.far ?_ (by show gz ≠ w.heap.size + 1; omega) _; refine Bk.far ?_ (by show gz ≠ w.heap.size + 1; omega) _; refine Bk.far ?_ (by show gz ≠ gx; omega) _; exact HK2.out
  · (repeat' (first | (with_reducible exact Below.refl _ _) | (with_reducible assumption) | (with_reducible refine Below.alloc ?_ ?_ _) | (with_reducible refine Below.drew ?_) | (with_reducible refine bdN ?_ _) | (with_reducible refine Below.setCell ?_ ?_ _) | (with_reducible refine chn ?_ (by assumption) ?_) | omega | (simp; done) | (simp; omega)))

set_option maxRecDepth 100000 in
set_option maxHeartbeats 4000000 in
theorem gti_6 {n a b : Nat} (q1 : 1 ≤ n) (q5 : n ≤ 5) (ha : a < n) (hb : b < n) (w : World) :
    Calls Try.prog 90 #[.int .i64 (n : Int), .agg #[.int .i64 6, .int .i64 (a : Int), .int .i64 (b : Int)]] w fun ee w' => ∃ gx gz : Nat, ee = .returned (tableauV n (some ⟨gx, 0, none⟩) n n (some ⟨gz, 0, none⟩) n n) ∧ Bk pauliE w' gx 43 (tab n (gtX 6 a b)) ∧ Bk pauliE w' gz 43 (tab n (gtZ 6 a b)) ∧ w.heap.size ≤ gx ∧ w.heap.size ≤ gz ∧ gx ≠ gz ∧ Below w.heap.size w w' := by
  have al : (a : Int) < (n : Int) := by omega
  have bl : (b : Int) < (n : Int) := by omega
  go_enter Try.func90, Try.ntmps90
  go_wp2_with (fail)
  refine (idt q1 q5 _).mono ?_
  rintro ee w1 ⟨gx, gz, rfl, hK1, hK2, hg1, hg2, hne, hb1⟩
  have hz1 := hb1.size
  (try simp only [World.size_alloc] at hz1 hg1 hg2)
  have Xg : Bb w1 w.heap.size 116 #[.int .i64 6, .int .i64 (a : Int), .int .i64 (b : Int)] := by (repeat' (first | (with_reducible assumption) | (refine Bb.new (by first | (with_reducible rfl) | (simp; done))) | (with_reducible refine Bb.alloc ?_ _) | (with_reducible refine Bb.drew ?_) | (with_reducible refine Bb.drewN ?_ _) | (with_reducible refine Bb.mono ?_ (by assumption)) | (with_reducible refine Bb.far ?_ (by (try simp only [World.size_alloc, World.size_drew]); omega)) | (with_reducible refine Bb.set ?_ rfl) | (with_reducible refine Bb.grown ?_ (by assumption) (by assumption))))
  have k0 := Xg.c 0 rfl
  have k1 := Xg.c 1 rfl
  have k2 := Xg.c 2 rfl
  have lk := Xg.lt
  have Xt : Bb w1 (w.heap.size + 1) 53 #[.int .i64 0, .slice none 0 0, .slice none 0 0] := by (repeat' (first | (with_reducible assumption) | (refine Bb.new (by first | (with_reducible rfl) | (simp; done))) | (with_reducible refine Bb.alloc ?_ _) | (with_reducible refine Bb.drew ?_) | (with_reducible refine Bb.drewN ?_ _) | (with_reducible refine Bb.mono ?_ (by assumption)) | (with_reducible refine Bb.far ?_ (by (try simp only [World.size_alloc, World.size_drew]); omega)) | (with_reducible refine Bb.set ?_ rfl) | (with_reducible refine Bb.grown ?_ (by assumption) (by assumption))))
  have t0 := Xt.c 0 rfl
  have t1 := Xt.c 1 rfl
  have t2 := Xt.c 2 rfl
  have lt := Xt.lt
  have tf := Xt.f
  have hB1 : Below w.heap.size w w1 := by (repeat' (first | (with_reducible exact Below.refl _ _) | (with_reducible assumption) | (with_reducible refine Below.alloc ?_ ?_ _) | (with_reducible refine Below.drew ?_) | (with_reducible refine bdN ?_ _) | (with_reducible refine Below.setCell ?_ ?_ _) | (with_reducible refine chn ?_ (by assumption) ?_) | omega | (simp; done) | (simp; omega)))
  have fx := hK1.fr
  have fz := hK2.fr
  obtain ⟨x0, x1, x2⟩ := Bk.atPauli (k := a) (x := genX a) hK1 (tab_get ha)
  obtain ⟨z0, z1, z2⟩ := Bk.atPauli (k := a) (x := genZ a) hK2 (tab_get ha)
  obtain ⟨p0, p1, p2⟩ := Bk.atPauli (k := b) (x := genX b) hK1 (tab_get hb)
  obtain ⟨r0, r1, r2⟩ := Bk.atPauli (k := b) (x := genZ b) hK2 (tab_get hb)
  have lx := hK1.lt
  have lz := hK2.lt
  have HK1 := lay hK1
  have HK2 := lay hK2
  clear hb1 hK1 hK2
  have e1 := pw_w (show a ≤ 5 by omega)
  have e2 := pw_k (show a ≤ 5 by omega)
  have e3 := pw_w (show b ≤ 5 by omega)
  have e4 := pw_k (show b ≤ 5 by omega)
  have a1 : IntKind.i64.wrap ((a : Int)) = (a : Int) := IntWalk.i64_in _ (by omega)
  have a2 : IntKind.i64.wrap ((b : Int)) = (b : Int) := IntWalk.i64_in _ (by omega)
  go_wp2_with (fail)
  go_region
  go_wp2_with (fail)
  go_region
  go_upto_region 25 with (fail)
  (repeat (first | go_values | go_skip | go_guarded | go_step | go_upon))
  refine bodyPost_ret (v := tableauV n (some ⟨gx, 0, none⟩) n n (some ⟨gz, 0, none⟩) n n) (by first | (simp [results, Try.results90, go_sem, *]; done) | (simp (disch := (first | omega | (simp; done) | (simp; omega))) [results, Try.results90, go_sem, *]; done) | (simp only [results, Try.results90]; go_simp; done)) rfl ⟨gx, gz, rfl, ?_, ?_, by omega, by omega, hne, ?_⟩
  · rw [show tab n (gtX 6 a b) = ((tab n genX).set a (pv 2 (2 ^ a) 0)).set a (pv 2 (2 ^ a) (2 ^ a)) from by rw [tab_set (n := n) (f := genX) (a := a) (v := pv 2 (2 ^ a) 0) (g := fun q => if q = a then pv 2 (2 ^ a) 0 else genX q) (by simp) (fun q h1 h2 => by simp [h2]), tab_set (g := gtX 6 a b) (by simp [gtX]) (fun q h1 h2 => by simp [gtX, h2])]]; (repeat (with_reducible refine Bk.drew ?_)); refine Bk.alloc ?_ _; refine Bk.far ?_ (by show gx ≠ w.heap.size + 1; omega) _; refine Bk.far ?_ (by show gx ≠ w.heap.size + 1; omega) _; refine Bk.far ?_ (by show gx ≠ w.heap.size + 1; omega) _; refine Bk.set1 (E := pauliE) (i := 2) (x := pv 2 (2 ^ a) 0) (y := pv 2 (2 ^ a) (2 ^ a)) ?_ (by rw [List.getElem?_set]; simp [tab_len, ha]) (by decide) rfl (by rfl); refine Bk.set1 (E := pauliE) (i := 0) (x := genX a) (y := pv 2 (2 ^ a) 0) ?_ (tab_get ha) (by decide) rfl (by rfl); exact HK1.out
  · show Bk _ _ _ _ (tab n genZ); (repeat (with_reducible refine Bk.drew ?_)); refine Bk.alloc ?_ _; refine Bk.far ?_ (by show gz ≠ w.heap.size + 1; omega) _; refine Bk.far ?_ (by show gz ≠ w.heap.size + 1; omega) _; refine Bk.far ?_ (by show gz ≠ w.heap.size + 1; omega) _; refine Bk.far ?_ (by show gz ≠ gx; omega) _; refine Bk.far ?_ (by show gz ≠ gx; omega) _; exact HK2.out
  · (repeat' (first | (with_reducible exact Below.refl _ _) | (with_reducible assumption) | (with_reducible refine Below.alloc ?_ ?_ _) | (with_reducible refine Below.drew ?_) | (with_reducible refine bdN ?_ _) | (with_reducible refine Below.setCell ?_ ?_ _) | (with_reducible refine chn ?_ (by assumption) ?_) | omega | (simp; done) | (simp; omega)))

set_option maxRecDepth 100000 in
set_option maxHeartbeats 4000000 in
theorem gti_9 {n a b : Nat} (q1 : 1 ≤ n) (q5 : n ≤ 5) (ha : a < n) (hb : b < n) (hab : a ≠ b) (w : World) :
    Calls Try.prog 90 #[.int .i64 (n : Int), .agg #[.int .i64 9, .int .i64 (a : Int), .int .i64 (b : Int)]] w fun ee w' => ∃ gx gz : Nat, ee = .returned (tableauV n (some ⟨gx, 0, none⟩) n n (some ⟨gz, 0, none⟩) n n) ∧ Bk pauliE w' gx 43 (tab n (gtX 9 a b)) ∧ Bk pauliE w' gz 43 (tab n (gtZ 9 a b)) ∧ w.heap.size ≤ gx ∧ w.heap.size ≤ gz ∧ gx ≠ gz ∧ Below w.heap.size w w' := by
  have al : (a : Int) < (n : Int) := by omega
  have bl : (b : Int) < (n : Int) := by omega
  go_enter Try.func90, Try.ntmps90
  go_wp2_with (fail)
  refine (idt q1 q5 _).mono ?_
  rintro ee w1 ⟨gx, gz, rfl, hK1, hK2, hg1, hg2, hne, hb1⟩
  have hz1 := hb1.size
  (try simp only [World.size_alloc] at hz1 hg1 hg2)
  have Xg : Bb w1 w.heap.size 116 #[.int .i64 9, .int .i64 (a : Int), .int .i64 (b : Int)] := by (repeat' (first | (with_reducible assumption) | (refine Bb.new (by first | (with_reducible rfl) | (simp; done))) | (with_reducible refine Bb.alloc ?_ _) | (with_reducible refine Bb.drew ?_) | (with_reducible refine Bb.drewN ?_ _) | (with_reducible refine Bb.mono ?_ (by assumption)) | (with_reducible refine Bb.far ?_ (by (try simp only [World.size_alloc, World.size_drew]); omega)) | (with_reducible refine Bb.set ?_ rfl) | (with_reducible refine Bb.grown ?_ (by assumption) (by assumption))))
  have k0 := Xg.c 0 rfl
  have k1 := Xg.c 1 rfl
  have k2 := Xg.c 2 rfl
  have lk := Xg.lt
  have Xt : Bb w1 (w.heap.size + 1) 53 #[.int .i64 0, .slice none 0 0, .slice none 0 0] := by (repeat' (first | (with_reducible assumption) | (refine Bb.new (by first | (with_reducible rfl) | (simp; done))) | (with_reducible refine Bb.alloc ?_ _) | (with_reducible refine Bb.drew ?_) | (with_reducible refine Bb.drewN ?_ _) | (with_reducible refine Bb.mono ?_ (by assumption)) | (with_reducible refine Bb.far ?_ (by (try simp only [World.size_alloc, World.size_drew]); omega)) | (with_reducible refine Bb.set ?_ rfl) | (with_reducible refine Bb.grown ?_ (by assumption) (by assumption))))
  have t0 := Xt.c 0 rfl
  have t1 := Xt.c 1 rfl
  have t2 := Xt.c 2 rfl
  have lt := Xt.lt
  have tf := Xt.f
  have hB1 : Below w.heap.size w w1 := by (repeat' (first | (with_reducible exact Below.refl _ _) | (with_reducible assumption) | (with_reducible refine Below.alloc ?_ ?_ _) | (with_reducible refine Below.drew ?_) | (with_reducible refine bdN ?_ _) | (with_reducible refine Below.setCell ?_ ?_ _) | (with_reducible refine chn ?_ (by assumption) ?_) | omega | (simp; done) | (simp; omega)))
  have fx := hK1.fr
  have fz := hK2.fr
  obtain ⟨x0, x1, x2⟩ := Bk.atPauli (k := a) (x := genX a) hK1 (tab_get ha)
  obtain ⟨z0, z1, z2⟩ := Bk.atPauli (k := a) (x := genZ a) hK2 (tab_get ha)
  obtain ⟨p0, p1, p2⟩ := Bk.atPauli (k := b) (x := genX b) hK1 (tab_get hb)
  obtain ⟨r0, r1, r2⟩ := Bk.atPauli (k := b) (x := genZ b) hK2 (tab_get hb)
  have lx := hK1.lt
  have lz := hK2.lt
  have HK1 := lay hK1
  have HK2 := lay hK2
  clear hb1 hK1 hK2
  have e1 := pw_w (show a ≤ 5 by omega)
  have e2 := pw_k (show a ≤ 5 by omega)
  have e3 := pw_w (show b ≤ 5 by omega)
  have e4 := pw_k (show b ≤ 5 by omega)
  have a1 : IntKind.i64.wrap ((a : Int)) = (a : Int) := IntWalk.i64_in _ (by omega)
  have a2 : IntKind.i64.wrap ((b : Int)) = (b : Int) := IntWalk.i64_in _ (by omega)
  go_wp2_with (fail)
  go_region
  go_wp2_with (fail)
  have o1 : bits .or .i64 (genX a).f1 ((pw b : Nat) : Int) = ((2 ^ a ||| 2 ^ b : Nat) : Int) := or_at (a := a) (b := b) (by omega) (by omega)
  have o2 : bits .or .i64 (genZ b).f2 ((pw a : Nat) : Int) = ((2 ^ b ||| 2 ^ a : Nat) : Int) := or_at (a := b) (b := a) (by omega) (by omega)
  go_region
  go_wp2_with (fail)
  go_region
  go_upto_region 25 with (fail)
  (repeat (first | go_values | go_skip | go_guarded | go_step | go_upon))
  refine bodyPost_ret (v := tableauV n (some ⟨gx, 0, none⟩) n n (some ⟨gz, 0, none⟩) n n) (by first | (simp [results, Try.results90, go_sem, *]; done) | (simp (disch := (first | omega | (simp; done) | (simp; omega))) [results, Try.results90, go_sem, *]; done) | (simp only [results, Try.results90]; go_simp; done)) rfl ⟨gx, gz, rfl, ?_, ?_, by omega, by omega, hne, ?_⟩
  · rw [show tab n (gtX 9 a b) = (tab n genX).set a (pv 0 (2 ^ a ||| 2 ^ b) 0) from (tab_set (by simp [gtX]) (fun q h1 h2 => by simp [gtX, h2])).symm]; (repeat (with_reducible refine Bk.drew ?_)); refine Bk.alloc ?_ _; refine Bk.far ?_ (by show gx ≠ w.heap.size + 1; omega) _; refine Bk.far ?_ (by show gx ≠ w.heap.size + 1; omega) _; refine Bk.far ?_ (by show gx ≠ w.heap.size + 1; omega) _; refine Bk.far ?_ (by show gx ≠ gz; omega) _; refine Bk.set1 (E := pauliE) (i := 1) (x := genX a) (y := pv 0 (2 ^ a ||| 2 ^ b) 0) ?_ (tab_get ha) (by decide) rfl (by rfl); exact HK1.out
  · rw [show tab n (gtZ 9 a b) = (tab n genZ).set b (pv 0 0 (2 ^ b ||| 2 ^ a)) from (tab_set (by simp [gtZ]) (fun q h1 h2 => by simp [gtZ, h2])).symm]; (repeat (with_reducible refine Bk.drew ?_)); refine Bk.alloc ?_ _; refine Bk.far ?_ (by show gz ≠ w.heap.size + 1; omega) _; refine Bk.far ?_ (by show gz ≠ w.heap.size + 1; omega) _; refine Bk.far ?_ (by show gz ≠ w.heap.size + 1; omega) _; refine Bk.set1 (E := pauliE) (i := 2) (x := genZ b) (y := pv 0 0 (2 ^ b ||| 2 ^ a)) ?_ (tab_get hb) (by decide) rfl (by rfl); refine Bk.far ?_ (by show gz ≠ gx; omega) _; exact HK2.out
  · (repeat' (first | (with_reducible exact Below.refl _ _) | (with_reducible assumption) | (with_reducible refine Below.alloc ?_ ?_ _) | (with_reducible refine Below.drew ?_) | (with_reducible refine bdN ?_ _) | (with_reducible refine Below.setCell ?_ ?_ _) | (with_reducible refine chn ?_ (by assumption) ?_) | omega | (simp; done) | (simp; omega)))

set_option maxRecDepth 100000 in
set_option maxHeartbeats 4000000 in
theorem gti_10 {n a b : Nat} (q1 : 1 ≤ n) (q5 : n ≤ 5) (ha : a < n) (hb : b < n) (hab : a ≠ b) (w : World) :
    Calls Try.prog 90 #[.int .i64 (n : Int), .agg #[.int .i64 10, .int .i64 (a : Int), .int .i64 (b : Int)]] w fun ee w' => ∃ gx gz : Nat, ee = .returned (tableauV n (some ⟨gx, 0, none⟩) n n (some ⟨gz, 0, none⟩) n n) ∧ Bk pauliE w' gx 43 (tab n (gtX 10 a b)) ∧ Bk pauliE w' gz 43 (tab n (gtZ 10 a b)) ∧ w.heap.size ≤ gx ∧ w.heap.size ≤ gz ∧ gx ≠ gz ∧ Below w.heap.size w w' := by
  have al : (a : Int) < (n : Int) := by omega
  have bl : (b : Int) < (n : Int) := by omega
  go_enter Try.func90, Try.ntmps90
  go_wp2_with (fail)
  refine (idt q1 q5 _).mono ?_
  rintro ee w1 ⟨gx, gz, rfl, hK1, hK2, hg1, hg2, hne, hb1⟩
  have hz1 := hb1.size
  (try simp only [World.size_alloc] at hz1 hg1 hg2)
  have Xg : Bb w1 w.heap.size 116 #[.int .i64 10, .int .i64 (a : Int), .int .i64 (b : Int)] := by (repeat' (first | (with_reducible assumption) | (refine Bb.new (by first | (with_reducible rfl) | (simp; done))) | (with_reducible refine Bb.alloc ?_ _) | (with_reducible refine Bb.drew ?_) | (with_reducible refine Bb.drewN ?_ _) | (with_reducible refine Bb.mono ?_ (by assumption)) | (with_reducible refine Bb.far ?_ (by (try simp only [World.size_alloc, World.size_drew]); omega)) | (with_reducible refine Bb.set ?_ rfl) | (with_reducible refine Bb.grown ?_ (by assumption) (by assumption))))
  have k0 := Xg.c 0 rfl
  have k1 := Xg.c 1 rfl
  have k2 := Xg.c 2 rfl
  have lk := Xg.lt
  have Xt : Bb w1 (w.heap.size + 1) 53 #[.int .i64 0, .slice none 0 0, .slice none 0 0] := by (repeat' (first | (with_reducible assumption) | (refine Bb.new (by first | (with_reducible rfl) | (simp; done))) | (with_reducible refine Bb.alloc ?_ _) | (with_reducible refine Bb.drew ?_) | (with_reducible refine Bb.drewN ?_ _) | (with_reducible refine Bb.mono ?_ (by assumption)) | (with_reducible refine Bb.far ?_ (by (try simp only [World.size_alloc, World.size_drew]); omega)) | (with_reducible refine Bb.set ?_ rfl) | (with_reducible refine Bb.grown ?_ (by assumption) (by assumption))))
  have t0 := Xt.c 0 rfl
  have t1 := Xt.c 1 rfl
  have t2 := Xt.c 2 rfl
  have lt := Xt.lt
  have tf := Xt.f
  have hB1 : Below w.heap.size w w1 := by (repeat' (first | (with_reducible exact Below.refl _ _) | (with_reducible assumption) | (with_reducible refine Below.alloc ?_ ?_ _) | (with_reducible refine Below.drew ?_) | (with_reducible refine bdN ?_ _) | (with_reducible refine Below.setCell ?_ ?_ _) | (with_reducible refine chn ?_ (by assumption) ?_) | omega | (simp; done) | (simp; omega)))
  have fx := hK1.fr
  have fz := hK2.fr
  obtain ⟨x0, x1, x2⟩ := Bk.atPauli (k := a) (x := genX a) hK1 (tab_get ha)
  obtain ⟨z0, z1, z2⟩ := Bk.atPauli (k := a) (x := genZ a) hK2 (tab_get ha)
  obtain ⟨p0, p1, p2⟩ := Bk.atPauli (k := b) (x := genX b) hK1 (tab_get hb)
  obtain ⟨r0, r1, r2⟩ := Bk.atPauli (k := b) (x := genZ b) hK2 (tab_get hb)
  have lx := hK1.lt
  have lz := hK2.lt
  have HK1 := lay hK1
  have HK2 := lay hK2
  clear hb1 hK1 hK2
  have e1 := pw_w (show a ≤ 5 by omega)
  have e2 := pw_k (show a ≤ 5 by omega)
  have e3 := pw_w (show b ≤ 5 by omega)
  have e4 := pw_k (show b ≤ 5 by omega)
  have a1 : IntKind.i64.wrap ((a : Int)) = (a : Int) := IntWalk.i64_in _ (by omega)
  have a2 : IntKind.i64.wrap ((b : Int)) = (b : Int) := IntWalk.i64_in _ (by omega)
  go_wp2_with (fail)
  go_region
  go_wp2_with (fail)
  go_region
  go_wp2_with (fail)
  go_region
  go_upto_region 25 with (fail)
  (repeat (first | go_values | go_skip | go_guarded | go_step | go_upon))
  refine bodyPost_ret (v := tableauV n (some ⟨gx, 0, none⟩) n n (some ⟨gz, 0, none⟩) n n) (by first | (simp [results, Try.results90, go_sem, *]; done) | (simp (disch := (first | omega | (simp; done) | (simp; omega))) [results, Try.results90, go_sem, *]; done) | (simp only [results, Try.results90]; go_simp; done)) rfl ⟨gx, gz, rfl, ?_, ?_, by omega, by omega, hne, ?_⟩
  · rw [show tab n (gtX 10 a b) = ((tab n genX).set a (pv 0 (2 ^ a) (2 ^ b))).set b (pv 0 (2 ^ b) (2 ^ a)) from by rw [tab_set (n := n) (f := genX) (a := a) (v := pv 0 (2 ^ a) (2 ^ b)) (g := fun q => if q = a then pv 0 (2 ^ a) (2 ^ b) else genX q) (by simp) (fun q h1 h2 => by simp [h2]), tab_set (g := gtX 10 a b) (by simp [hab, hab.symm, gtX]) (fun q h1 h2 => by simp [gtX, h2])]]; (repeat (with_reducible refine Bk.drew ?_)); refine Bk.alloc ?_ _; refine Bk.far ?_ (by show gx ≠ w.heap.size + 1; omega) _; refine Bk.far ?_ (by show gx ≠ w.heap.size + 1; omega) _; refine Bk.far ?_ (by show gx ≠ w.heap.size + 1; omega) _; refine Bk.set1 (E := pauliE) (i := 2) (x := genX b) (y := pv 0 (2 ^ b) (2 ^ a)) ?_ (by rw [List.getElem?_set_ne hab]; exact tab_get hb) (by decide) rfl (by rfl); refine Bk.set1 (E := pauliE) (i := 2) (x := genX a) (y := pv 0 (2 ^ a) (2 ^ b)) ?_ (tab_get ha) (by decide) rfl (by rfl); exact HK1.out
  · show Bk _ _ _ _ (tab n genZ); (repeat (with_reducible refine Bk.drew ?_)); refine Bk.alloc ?_ _; refine Bk.far ?_ (by show gz ≠ w.heap.size + 1; omega) _; refine Bk.far ?_ (by show gz ≠ w.heap.size + 1; omega) _; refine Bk.far ?_ (by show gz ≠ w.heap.size + 1; omega) _; refine Bk.far ?_ (by show gz ≠ gx; omega) _; refine Bk.far ?_ (by show gz ≠ gx; omega) _; exact HK2.out
  · (repeat' (first | (with_reducible exact Below.refl _ _) | (with_reducible assumption) | (with_reducible refine Below.alloc ?_ ?_ _) | (with_reducible refine Below.drew ?_) | (with_reducible refine bdN ?_ _) | (with_reducible refine Below.setCell ?_ ?_ _) | (with_reducible refine chn ?_ (by assumption) ?_) | omega | (simp; done) | (simp; omega)))

set_option maxRecDepth 100000 in
set_option maxHeartbeats 4000000 in
theorem gti_12 {n a b : Nat} (q1 : 1 ≤ n) (q5 : n ≤ 5) (ha : a < n) (hb : b < n) (w : World) :
    Calls Try.prog 90 #[.int .i64 (n : Int), .agg #[.int .i64 12, .int .i64 (a : Int), .int .i64 (b : Int)]] w fun ee w' => ∃ gx gz : Nat, ee = .returned (tableauV n (some ⟨gx, 0, none⟩) n n (some ⟨gz, 0, none⟩) n n) ∧ Bk pauliE w' gx 43 (tab n (gtX 12 a b)) ∧ Bk pauliE w' gz 43 (tab n (gtZ 12 a b)) ∧ w.heap.size ≤ gx ∧ w.heap.size ≤ gz ∧ gx ≠ gz ∧ Below w.heap.size w w' := by
  have al : (a : Int) < (n : Int) := by omega
  have bl : (b : Int) < (n : Int) := by omega
  go_enter Try.func90, Try.ntmps90
  go_wp2_with (fail)
  refine (idt q1 q5 _).mono ?_
  rintro ee w1 ⟨gx, gz, rfl, hK1, hK2, hg1, hg2, hne, hb1⟩
  have hz1 := hb1.size
  (try simp only [World.size_alloc] at hz1 hg1 hg2)
  have Xg : Bb w1 w.heap.size 116 #[.int .i64 12, .int .i64 (a : Int), .int .i64 (b : Int)] := by (repeat' (first | (with_reducible assumption) | (refine Bb.new (by first | (with_reducible rfl) | (simp; done))) | (with_reducible refine Bb.alloc ?_ _) | (with_reducible refine Bb.drew ?_) | (with_reducible refine Bb.drewN ?_ _) | (with_reducible refine Bb.mono ?_ (by assumption)) | (with_reducible refine Bb.far ?_ (by (try simp only [World.size_alloc, World.size_drew]); omega)) | (with_reducible refine Bb.set ?_ rfl) | (with_reducible refine Bb.grown ?_ (by assumption) (by assumption))))
  have k0 := Xg.c 0 rfl
  have k1 := Xg.c 1 rfl
  have k2 := Xg.c 2 rfl
  have lk := Xg.lt
  have Xt : Bb w1 (w.heap.size + 1) 53 #[.int .i64 0, .slice none 0 0, .slice none 0 0] := by (repeat' (first | (with_reducible assumption) | (refine Bb.new (by first | (with_reducible rfl) | (simp; done))) | (with_reducible refine Bb.alloc ?_ _) | (with_reducible refine Bb.drew ?_) | (with_reducible refine Bb.drewN ?_ _) | (with_reducible refine Bb.mono ?_ (by assumption)) | (with_reducible refine Bb.far ?_ (by (try simp only [World.size_alloc, World.size_drew]); omega)) | (with_reducible refine Bb.set ?_ rfl) | (with_reducible refine Bb.grown ?_ (by assumption) (by assumption))))
  have t0 := Xt.c 0 rfl
  have t1 := Xt.c 1 rfl
  have t2 := Xt.c 2 rfl
  have lt := Xt.lt
  have tf := Xt.f
  have hB1 : Below w.heap.size w w1 := by (repeat' (first | (with_reducible exact Below.refl _ _) | (with_reducible assumption) | (with_reducible refine Below.alloc ?_ ?_ _) | (with_reducible refine Below.drew ?_) | (with_reducible refine bdN ?_ _) | (with_reducible refine Below.setCell ?_ ?_ _) | (with_reducible refine chn ?_ (by assumption) ?_) | omega | (simp; done) | (simp; omega)))
  have fx := hK1.fr
  have fz := hK2.fr
  obtain ⟨x0, x1, x2⟩ := Bk.atPauli (k := a) (x := genX a) hK1 (tab_get ha)
  obtain ⟨z0, z1, z2⟩ := Bk.atPauli (k := a) (x := genZ a) hK2 (tab_get ha)
  obtain ⟨p0, p1, p2⟩ := Bk.atPauli (k := b) (x := genX b) hK1 (tab_get hb)
  obtain ⟨r0, r1, r2⟩ := Bk.atPauli (k := b) (x := genZ b) hK2 (tab_get hb)
  have lx := hK1.lt
  have lz := hK2.lt
  have HK1 := lay hK1
  have HK2 := lay hK2
  clear hb1 hK1 hK2
  have e1 := pw_w (show a ≤ 5 by omega)
  have e2 := pw_k (show a ≤ 5 by omega)
  have e3 := pw_w (show b ≤ 5 by omega)
  have e4 := pw_k (show b ≤ 5 by omega)
  have a1 : IntKind.i64.wrap ((a : Int)) = (a : Int) := IntWalk.i64_in _ (by omega)
  have a2 : IntKind.i64.wrap ((b : Int)) = (b : Int) := IntWalk.i64_in _ (by omega)
  go_wp2_with (fail)
  go_region
  go_upto_region 25 with (fail)
  (repeat (first | go_values | go_skip | go_guarded | go_step | go_upon))
  refine bodyPost_ret (v := tableauV n (some ⟨gx, 0, none⟩) n n (some ⟨gz, 0, none⟩) n n) (by first | (simp [results, Try.results90, go_sem, *]; done) | (simp (disch := (first | omega | (simp; done) | (simp; omega))) [results, Try.results90, go_sem, *]; done) | (simp only [results, Try.results90]; go_simp; done)) rfl ⟨gx, gz, rfl, ?_, ?_, by omega, by omega, hne, ?_⟩
  · show Bk _ _ _ _ (tab n genX); (repeat (with_reducible refine Bk.drew ?_)); refine Bk.alloc ?_ _; refine Bk.far ?_ (by show gx ≠ w.heap.size + 1; omega) _; refine Bk.far ?_ (by show gx ≠ w.heap.size + 1; omega) _; refine Bk.far ?_ (by show gx ≠ w.heap.size + 1; omega) _; exact HK1.out
  · show Bk _ _ _ _ (tab n genZ); (repeat (with_reducible refine Bk.drew ?_)); refine Bk.alloc ?_ _; refine Bk.far ?_ (by show gz ≠ w.heap.size + 1; omega) _; refine Bk.far ?_ (by show gz ≠ w.heap.size + 1; omega) _; refine Bk.far ?_ (by show gz ≠ w.heap.size + 1; omega) _; exact HK2.out
  · (repeat' (first | (with_reducible exact Below.refl _ _) | (with_reducible assumption) | (with_reducible refine Below.alloc ?_ ?_ _) | (with_reducible refine Below.drew ?_) | (with_reducible refine bdN ?_ _) | (with_reducible refine Below.setCell ?_ ?_ _) | (with_reducible refine chn ?_ (by assumption) ?_) | omega | (simp; done) | (simp; omega)))

end Go.Proofs.Ytjedpeoafpljhaa.C4
