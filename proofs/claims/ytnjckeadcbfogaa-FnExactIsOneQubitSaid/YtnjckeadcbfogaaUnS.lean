/- IsUnitary: the model. -/
import Derived.Test.YtnjckeadcbfogaaUnI
import Derived.Test.YtnjckeadcbfogaaUnM
namespace Go.Proofs.Ytnjckeadcbfogaa
open Go.RowKit RM
set_option linter.unusedVariables false
set_option linter.unusedSimpArgs false
attribute [local irreducible] World.setCell

set_option maxRecDepth 100000 in
set_option maxHeartbeats 4000000 in
theorem un_s_v {r c : Int} {g0 n cp : Nat} {xs : List D5} {w : World} (hA : Rd w (some ⟨g0, 0, none⟩) xs) (hn : xs.length = n) (hok : okM r c n xs = false) :
    Calls Try.prog 28 #[mv r c (some ⟨g0, 0, none⟩) n cp] w fun ee w' => ee = .returned (.tuple #[.bool false, .bool false]) ∧ Below w.heap.size w w' := by
  have HA := hid hA
  have HN := hid hn
  have HO := hid hok
  clear hA hn hok
  go_enter Try.func28, Try.ntmps28
  go_wp2_with (fail)
  refine (vm_s_f (xs := xs) HO.out ?_ HN.out).mono ?_
  · exact HA.out.mono (by (repeat' (first | (with_reducible exact Below.refl _ _) | (with_reducible assumption) | (with_reducible refine Below.alloc ?_ ?_ _) | (with_reducible refine Below.drew ?_) | (with_reducible refine below_drewN ?_ _) | (with_reducible refine Below.setCell ?_ ?_ _) | (with_reducible refine chain ?_ (by assumption) ?_) | omega | (simp; done) | (simp; omega))))
  rintro ee w1 ⟨rfl, hb1⟩
  have hz1 := hb1.size
  (try simp only [World.size_alloc] at hz1)
  have hB1 : Below w.heap.size w w1 := by (repeat' (first | (with_reducible exact Below.refl _ _) | (with_reducible assumption) | (with_reducible refine Below.alloc ?_ ?_ _) | (with_reducible refine Below.drew ?_) | (with_reducible refine below_drewN ?_ _) | (with_reducible refine Below.setCell ?_ ?_ _) | (with_reducible refine chain ?_ (by assumption) ?_) | omega | (simp; done) | (simp; omega)))
  clear hb1
  go_wp2_with (fail)
  refine bodyPost_ret (v := .tuple #[.bool false, .bool false]) (by first | (simp [results, Try.results28, go_sem, *]; done) | (simp (disch := (first | omega | (simp; done) | (simp; omega))) [results, Try.results28, go_sem, *]; done) | (simp only [results, Try.results28]; go_simp; done)) rfl ⟨rfl, ?_⟩
  (repeat' (first | (with_reducible exact Below.refl _ _) | (with_reducible assumption) | (with_reducible refine Below.alloc ?_ ?_ _) | (with_reducible refine Below.drew ?_) | (with_reducible refine below_drewN ?_ _) | (with_reducible refine Below.setCell ?_ ?_ _) | (with_reducible refine chain ?_ (by assumption) ?_) | omega | (simp; done) | (simp; omega)))

set_option maxRecDepth 100000 in
set_option maxHeartbeats 4000000 in
theorem un_s_c {R C : Nat} {g0 n cp : Nat} {xs : List D5} {w : World} (hA : Rd w (some ⟨g0, 0, none⟩) xs) (hn : xs.length = n) (hok : okM (R : Int) (C : Int) n xs = true) (hr : R ≠ C) :
    Calls Try.prog 28 #[mv (R : Int) (C : Int) (some ⟨g0, 0, none⟩) n cp] w fun ee w' => ee = .returned (.tuple #[.bool false, .bool false]) ∧ Below w.heap.size w w' := by
  have h1 : ((R : Int) != (C : Int)) = true := by simp; omega
  have HA := hid hA
  have HN := hid hn
  have HO := hid hok
  clear hA hn hok
  go_enter Try.func28, Try.ntmps28
  go_wp2_with (fail)
  refine (vm_s_t (xs := xs) HO.out ?_ HN.out).mono ?_
  · exact HA.out.mono (by (repeat' (first | (with_reducible exact Below.refl _ _) | (with_reducible assumption) | (with_reducible refine Below.alloc ?_ ?_ _) | (with_reducible refine Below.drew ?_) | (with_reducible refine below_drewN ?_ _) | (with_reducible refine Below.setCell ?_ ?_ _) | (with_reducible refine chain ?_ (by assumption) ?_) | omega | (simp; done) | (simp; omega))))
  rintro ee w1 ⟨rfl, hb1⟩
  have Xa := hid (Bx.mono (b := w.heap.size) (t := 28) (cs := #[.int .i64 (R : Int), .int .i64 (C : Int), .slice (some ⟨g0, 0, none⟩) n cp]) (Bx.new rfl) hb1)
  have hz1 := hb1.size
  (try simp only [World.size_alloc] at hz1)
  have hB1 : Below w.heap.size w w1 := by (repeat' (first | (with_reducible exact Below.refl _ _) | (with_reducible assumption) | (with_reducible refine Below.alloc ?_ ?_ _) | (with_reducible refine Below.drew ?_) | (with_reducible refine below_drewN ?_ _) | (with_reducible refine Below.setCell ?_ ?_ _) | (with_reducible refine chain ?_ (by assumption) ?_) | omega | (simp; done) | (simp; omega)))
  have ca0 := Xa.out.c 0 rfl
  have ca1 := Xa.out.c 1 rfl
  have ca2 := Xa.out.c 2 rfl
  have la := Xa.out.lt
  clear hb1
  go_wp2_with (fail)
  refine bodyPost_ret (v := .tuple #[.bool false, .bool false]) (by first | (simp [results, Try.results28, go_sem, *]; done) | (simp (disch := (first | omega | (simp; done) | (simp; omega))) [results, Try.results28, go_sem, *]; done) | (simp only [results, Try.results28]; go_simp; done)) rfl ⟨rfl, ?_⟩
  (repeat' (first | (with_reducible exact Below.refl _ _) | (with_reducible assumption) | (with_reducible refine Below.alloc ?_ ?_ _) | (with_reducible refine Below.drew ?_) | (with_reducible refine below_drewN ?_ _) | (with_reducible refine Below.setCell ?_ ?_ _) | (with_reducible refine chain ?_ (by assumption) ?_) | omega | (simp; done) | (simp; omega)))

set_option maxRecDepth 100000 in
set_option maxHeartbeats 16000000 in
theorem un_s_b {R : Nat} {g0 n cp : Nat} {xs : List D5} {w : World} (hA : Rd w (some ⟨g0, 0, none⟩) xs) (hn : xs.length = n) (hok : okM (R : Int) (R : Int) n xs = true) (hany : anyB (R * R) (unG R xs) = true) :
    Calls Try.prog 28 #[mv (R : Int) (R : Int) (some ⟨g0, 0, none⟩) n cp] w fun ee w' => ee = .returned (.tuple #[.bool false, .bool false]) ∧ Below w.heap.size w w' := by
  obtain ⟨hnn, h1, h2, -, -, h5⟩ := okM_nat2 hok
  have hadj := okM_adj hok hn
  have HAD := hid hadj
  have HAN := hid hany
  have HNN := hid hnn
  have HALL := hid (okM_iff.1 hok).2.2.2
  have rr : R * R ≤ 1024 := by rw [← hnn]; exact h5
  clear hadj hany hnn
  have HA := hid hA
  have HN := hid hn
  have HO := hid hok
  clear hA hn hok
  have h0A : g0 < w.heap.size := by
    obtain ⟨x, hx⟩ : ∃ x, xs[0]? = some x := ⟨_, List.getElem?_eq_getElem (by rw [HN.out, HNN.out]; exact Nat.mul_pos (by omega) (by omega))⟩
    exact (HA.out.cx hx).lt
  go_enter Try.func28, Try.ntmps28
  go_wp2_with (fail)
  refine (vm_s_t (xs := xs) HO.out ?_ HN.out).mono ?_
  · exact HA.out.mono (by (repeat' (first | (with_reducible exact Below.refl _ _) | (with_reducible assumption) | (with_reducible refine Below.alloc ?_ ?_ _) | (with_reducible refine Below.drew ?_) | (with_reducible refine below_drewN ?_ _) | (with_reducible refine Below.setCell ?_ ?_ _) | (with_reducible refine chain ?_ (by assumption) ?_) | omega | (simp; done) | (simp; omega))))
  rintro ee w1 ⟨rfl, hb1⟩
  have Xa := hid (Bx.mono (b := w.heap.size) (t := 28) (cs := #[.int .i64 (R : Int), .int .i64 (R : Int), .slice (some ⟨g0, 0, none⟩) n cp]) (Bx.new rfl) hb1)
  have hz1 := hb1.size
  (try simp only [World.size_alloc] at hz1)
  have hB1 : Below w.heap.size w w1 := by (repeat' (first | (with_reducible exact Below.refl _ _) | (with_reducible assumption) | (with_reducible refine Below.alloc ?_ ?_ _) | (with_reducible refine Below.drew ?_) | (with_reducible refine below_drewN ?_ _) | (with_reducible refine Below.setCell ?_ ?_ _) | (with_reducible refine chain ?_ (by assumption) ?_) | omega | (simp; done) | (simp; omega)))
  have ca0 := Xa.out.c 0 rfl
  have ca1 := Xa.out.c 1 rfl
  have ca2 := Xa.out.c 2 rfl
  have la := Xa.out.lt
  clear hb1
  go_upto_region 4 with (fail)
  obtain ⟨gc, hgc⟩ : ∃ gc, gc = w1.heap.size := ⟨_, rfl⟩
  obtain ⟨W1, hW1⟩ : ∃ W, W = w1.alloc (.cells #[.bool false] 95) := ⟨_, rfl⟩
  rw [← hW1, ← hgc]
  have XC : Hid (Bx W1 gc 95 #[.bool false]) := by show Bx _ _ _ _; rw [hW1, hgc]; exact Bx.new rfl
  have hBW : Below w.heap.size w W1 := by rw [hW1]; exact hB1.alloc (by omega) _
  have XA1 : Hid (Bx W1 w.heap.size 28 #[.int .i64 (R : Int), .int .i64 (R : Int), .slice (some ⟨g0, 0, none⟩) n cp]) := by show Bx _ _ _ _; rw [hW1]; exact Xa.out.alloc _
  have hsW4 : w.heap.size < gc := by rw [hgc]; exact la
  have hsW2 : gc < W1.heap.size := XC.out.lt
  clear hW1 hgc Xa ca0 ca1 ca2 la hB1 hz1
  have ca0 := XA1.out.c 0 rfl
  have ca1 := XA1.out.c 1 rfl
  have ca2 := XA1.out.c 2 rfl
  have la := XA1.out.lt
  go_cut [5] (fun s5 wx => ∃ (b : Nat) (z : Bool) (zs : List D5) (Bo : Option Addr) (cq : Nat), s5 = .pointer (some ⟨b, 0, none⟩) ∧ Hid (Bx wx b 28 #[.int .i64 (R : Int), .int .i64 (R : Int), .slice Bo (R * R) cq]) ∧ Hid (Bx wx gc 95 #[.bool z]) ∧ Hid (Bx wx w.heap.size 28 #[.int .i64 (R : Int), .int .i64 (R : Int), .slice (some ⟨g0, 0, none⟩) n cp]) ∧ Hid (Sofar z zs (R * R) (unF R xs) (unG R xs)) ∧ Hid (Rd wx Bo zs) ∧ Hid (Below w.heap.size w wx))
  case first =>
    have yca0 : W1.drew.cell? ⟨w.heap.size, 0, none⟩ = some (.int .i64 (R : Int)) := ca0
    have yca1 : W1.drew.cell? ⟨w.heap.size, 1, none⟩ = some (.int .i64 (R : Int)) := ca1
    have yca2 : W1.drew.cell? ⟨w.heap.size, 2, none⟩ = some (.slice (some ⟨g0, 0, none⟩) n cp) := ca2
    refine wp_region_x (fun w' => w'.cell? ⟨w.heap.size, 0, none⟩ = some (.int .i64 (R : Int)) ∧ w'.cell? ⟨w.heap.size, 1, none⟩ = some (.int .i64 (R : Int)) ∧ w'.cell? ⟨w.heap.size, 2, none⟩ = some (.slice (some ⟨g0, 0, none⟩) n cp)) 1000 (by kernel_rfl) ⟨yca0, yca1, yca2⟩ (fun hS0 => ?_)
    refine wpAnyX_take (i := 0) (oi := _) (v := ?_) rfl (by kernel_rfl) (by kernel_rfl) (by kernel_rfl) (by kernel_rfl) (fun _ _ _ h => h) (Or.inl ⟨by rfl, ?_⟩) hS0 ?_
    rotate_left 1
    · (intro w hSw; (try dsimp only at hSw); go_simp; (try with_reducible rfl))
    try simp only [Act.put, List.setIfInBounds_toArray, List.set_cons_zero, List.set_cons_succ]
    refine wpAnyX_take (i := 1) (oi := _) (v := ?_) rfl (by kernel_rfl) (by kernel_rfl) (by kernel_rfl) (by kernel_rfl) (fun _ _ _ h => h) (Or.inl ⟨by rfl, ?_⟩) hS0 ?_
    rotate_left 1
    · (intro w hSw; (try dsimp only at hSw); go_simp; (try with_reducible rfl))
    try simp only [Act.put, List.setIfInBounds_toArray, List.set_cons_zero, List.set_cons_succ]
    refine wpAnyX_take (i := 2) (oi := _) (v := ?_) rfl (by kernel_rfl) (by kernel_rfl) (by kernel_rfl) (by kernel_rfl) (fun _ _ _ h => h) (Or.inl ⟨by rfl, ?_⟩) hS0 ?_
    rotate_left 1
    · (intro w hSw; (try dsimp only at hSw); go_simp; (try with_reducible rfl))
    try simp only [Act.put, List.setIfInBounds_toArray, List.set_cons_zero, List.set_cons_succ]
    refine wpAnyX_two (i := 3) (j := 5) (oi := _) (oj := _) rfl rfl (by kernel_rfl) (fun K hK => ?_) (fun K hK => ?_)
    · go_simp
      refine (ladj (xs := xs) (r := R) (c := R) ?_ HN.out HNN.out h5 h2 h2 HALL.out).mono ?_
      · exact HA.out.mono (by (repeat' (first | (with_reducible exact Below.refl _ _) | (with_reducible assumption) | (with_reducible refine Below.alloc ?_ ?_ _) | (with_reducible refine Below.drew ?_) | (with_reducible refine below_drewN ?_ _) | (with_reducible refine Below.setCell ?_ ?_ _) | (with_reducible refine chain ?_ (by assumption) ?_) | omega | (simp; done) | (simp; omega))))
      rintro ee v3 ⟨B, c3, rfl, hR3, hB3, hb30⟩
      have hb3 := undrew hb30
      have hz3 := hb3.size
      (try simp only [World.size_alloc, World.size_drew] at hz3 hB3)
      refine hK.out _ _ (fun _ => ?_) (fun hS1 => ?_)
      · exact ⟨kc hb30 hS0.1, kc hb30 hS0.2.1, kc hb30 hS0.2.2⟩
      clear hK K
      have hS1 := hS1 (by decide)
      try simp only [Act.put, List.setIfInBounds_toArray, List.set_cons_zero, List.set_cons_succ]
      refine wpAnyX_two (i := 4) (j := 5) (oi := _) (oj := _) rfl rfl (by kernel_rfl) (fun K hK => ?_) (fun K hK => ?_)
      · go_simp
        obtain ⟨y9, hy9⟩ : ∃ y, (tab (R * R) (adjF R R xs))[0]? = some y := ⟨_, List.getElem?_eq_getElem (by rw [tab_len]; exact Nat.mul_pos (by omega) (by omega))⟩
        obtain ⟨h0, o0, rfl, hC9⟩ := hR3 0 y9 hy9
        have hh0 := hB3 _ rfl
        (try dsimp only at hh0)
        have gcx := (XC.out.mono hb3)
        have acx := (XA1.out.mono hb3)
        refine (mumo (xs := xs) (ys := tab (R * R) (adjF R R xs)) (N := R * R) (gc := gc) ?_ ?_ HN.out (tab_len _ _) HO.out HAD.out rfl gcx (by omega) (by omega)).mono ?_
        · exact HA.out.mono (by (repeat' (first | (with_reducible exact Below.refl _ _) | (with_reducible assumption) | (with_reducible refine Below.alloc ?_ ?_ _) | (with_reducible refine Below.drew ?_) | (with_reducible refine below_drewN ?_ _) | (with_reducible refine Below.setCell ?_ ?_ _) | (with_reducible refine chain ?_ (by assumption) ?_) | omega | (simp; done) | (simp; omega))))
        · exact hR3.mono (by (repeat' (first | (with_reducible exact Below.refl _ _) | (with_reducible assumption) | (with_reducible refine Below.alloc ?_ ?_ _) | (with_reducible refine Below.drew ?_) | (with_reducible refine below_drewN ?_ _) | (with_reducible refine Below.setCell ?_ ?_ _) | (with_reducible refine chain ?_ (by assumption) ?_) | omega | (simp; done) | (simp; omega))))
        rintro ee v4 ⟨z, zs, Bo, cq, rfl, hS, hRd, hBa, hb4⟩
        have hz4 := bad_size hb4
        (try simp only [World.size_alloc, World.size_drew] at hz4 hBa)
        refine hK.out _ _ (fun _ => ?_) (fun hS2 => ?_)
        · exact ⟨kbad hb4 (by omega) hS1.1, kbad hb4 (by omega) hS1.2.1, kbad hb4 (by omega) hS1.2.2⟩
        clear hK K
        have hS2 := hS2 (by decide)
        try simp only [Act.put, List.setIfInBounds_toArray, List.set_cons_zero, List.set_cons_succ]
        refine wpAnyX_one (i := 5) (o := _) rfl (by kernel_rfl) (fun K hK => ?_)
        go_simp
        refine hK.out _ _ (fun _ => ?_) (fun hS3 => ?_)
        · first | exact ⟨kal hS2.1, kal hS2.2.1, kal hS2.2.2⟩ | exact ⟨kald hS2.1, kald hS2.2.1, kald hS2.2.2⟩
        clear hK K
        have hS3 := hS3 (by decide)
        try simp only [Act.put, List.setIfInBounds_toArray, List.set_cons_zero, List.set_cons_succ]
        refine wpAnyX_one (i := 6) (o := _) rfl (by kernel_rfl) (fun K hK => ?_)
        go_simp
        refine hK.out _ _ (fun _ => ?_) (fun hS4 => ?_)
        · first | exact ⟨kst3 (by omega) hS3.1, kst3 (by omega) hS3.2.1, kst3 (by omega) hS3.2.2⟩ | exact ⟨kre (by omega) hS3.1, kre (by omega) hS3.2.1, kre (by omega) hS3.2.2⟩ | exact ⟨kal hS2.1, kal hS2.2.1, kal hS2.2.2⟩
        clear hK K
        have hS4 := hS4 (by decide)
        try simp only [Act.put, List.setIfInBounds_toArray, List.set_cons_zero, List.set_cons_succ]
        refine wpAnyX_done (by kernel_rfl) ?_ _
        go_wp2_with (fail)
        go_meet
        refine ⟨_, z, zs, Bo, cq, rfl, ?_, ?_, ?_, ?_, ?_, ?_⟩
        · show Bx _ _ _ _
          (first | exact (Bx.set (i := 2) (u := .slice Bo (R * R) cq) (Bx.set (i := 1) (u := .int .i64 (R : Int)) (Bx.set (i := 0) (u := .int .i64 (R : Int)) (Bx.new (cs := #[.int .i64 0, .int .i64 0, .slice none 0 0]) (by first | rfl | (simp; done))) rfl) rfl) rfl) | exact (Bx.new (cs := #[.int .i64 (R : Int), .int .i64 (R : Int), .slice Bo (R * R) cq]) (by first | rfl | (simp; done))))
        · show Bx _ _ _ _
          (first | exact (Bx.far (Bx.far (Bx.far (Bx.alloc (Bx.bad gcx hb4) _) (by (try dsimp only); omega)) (by (try dsimp only); omega)) (by (try dsimp only); omega)) | exact (Bx.alloc (Bx.bad gcx hb4) _))
        · show Bx _ _ _ _
          (first | exact (Bx.far (Bx.far (Bx.far (Bx.alloc (Bx.badly acx hb4 (by omega)) _) (by (try dsimp only); omega)) (by (try dsimp only); omega)) (by (try dsimp only); omega)) | exact (Bx.alloc (Bx.badly acx hb4 (by omega)) _))
        · show Sofar _ _ _ _ _
          exact hS
        · show Rd _ _ _
          (repeat' (first | exact hRd | refine Rd.far ?_ (fun a ha => by have h9 := hBa a ha; (try dsimp only); omega) _ | exact hRd.mono (by (repeat' (first | (with_reducible exact Below.refl _ _) | (with_reducible assumption) | (with_reducible refine Below.alloc ?_ ?_ _) | (with_reducible refine Below.drew ?_) | (with_reducible refine below_drewN ?_ _) | (with_reducible refine Below.setCell ?_ ?_ _) | (with_reducible refine chain ?_ (by assumption) ?_) | omega | (simp; done) | (simp; omega))))))
        · show Below _ _ _
          have hB4 := bad_below (w := w) (by (repeat' (first | (with_reducible exact Below.refl _ _) | (with_reducible assumption) | (with_reducible refine Below.alloc ?_ ?_ _) | (with_reducible refine Below.drew ?_) | (with_reducible refine below_drewN ?_ _) | (with_reducible refine Below.setCell ?_ ?_ _) | (with_reducible refine chain ?_ (by assumption) ?_) | omega | (simp; done) | (simp; omega)))) hb4 (by omega)
          have hB4s := hB4.size
          (repeat' (first | (with_reducible exact Below.refl _ _) | (with_reducible assumption) | (with_reducible refine Below.alloc ?_ ?_ _) | (with_reducible refine Below.drew ?_) | (with_reducible refine below_drewN ?_ _) | (with_reducible refine Below.setCell ?_ ?_ _) | (with_reducible refine chain ?_ (by assumption) ?_) | omega | (simp; done) | (simp; omega)))
      · go_simp
        refine hK.out _ _ (fun _ => ?_) (fun hS2 => ?_)
        · first | exact ⟨kal hS1.1, kal hS1.2.1, kal hS1.2.2⟩ | exact ⟨kald hS1.1, kald hS1.2.1, kald hS1.2.2⟩
        clear hK K
        have hS2 := hS2 (by decide)
        try simp only [Act.put, List.setIfInBounds_toArray, List.set_cons_zero, List.set_cons_succ]
        refine wpAnyX_one (i := 4) (o := _) rfl (by kernel_rfl) (fun K hK => ?_)
        go_simp
        obtain ⟨y9, hy9⟩ : ∃ y, (tab (R * R) (adjF R R xs))[0]? = some y := ⟨_, List.getElem?_eq_getElem (by rw [tab_len]; exact Nat.mul_pos (by omega) (by omega))⟩
        obtain ⟨h0, o0, rfl, hC9⟩ := hR3 0 y9 hy9
        have hh0 := hB3 _ rfl
        (try dsimp only at hh0)
        have gcx := ((XC.out.mono hb3).alloc (.cells #[.int .i64 0, .int .i64 0, .slice none 0 0] 28))
        have acx := ((XA1.out.mono hb3).alloc (.cells #[.int .i64 0, .int .i64 0, .slice none 0 0] 28))
        refine (mumo (xs := xs) (ys := tab (R * R) (adjF R R xs)) (N := R * R) (gc := gc) ?_ ?_ HN.out (tab_len _ _) HO.out HAD.out rfl gcx (by omega) (by omega)).mono ?_
        · exact HA.out.mono (by (repeat' (first | (with_reducible exact Below.refl _ _) | (with_reducible assumption) | (with_reducible refine Below.alloc ?_ ?_ _) | (with_reducible refine Below.drew ?_) | (with_reducible refine below_drewN ?_ _) | (with_reducible refine Below.setCell ?_ ?_ _) | (with_reducible refine chain ?_ (by assumption) ?_) | omega | (simp; done) | (simp; omega))))
        · exact hR3.mono (by (repeat' (first | (with_reducible exact Below.refl _ _) | (with_reducible assumption) | (with_reducible refine Below.alloc ?_ ?_ _) | (with_reducible refine Below.drew ?_) | (with_reducible refine below_drewN ?_ _) | (with_reducible refine Below.setCell ?_ ?_ _) | (with_reducible refine chain ?_ (by assumption) ?_) | omega | (simp; done) | (simp; omega))))
        rintro ee v4 ⟨z, zs, Bo, cq, rfl, hS, hRd, hBa, hb4⟩
        have hz4 := bad_size hb4
        (try simp only [World.size_alloc, World.size_drew] at hz4 hBa)
        refine hK.out _ _ (fun _ => ?_) (fun hS3 => ?_)
        · exact ⟨kbad hb4 (by omega) hS2.1, kbad hb4 (by omega) hS2.2.1, kbad hb4 (by omega) hS2.2.2⟩
        clear hK K
        have hS3 := hS3 (by decide)
        try simp only [Act.put, List.setIfInBounds_toArray, List.set_cons_zero, List.set_cons_succ]
        refine wpAnyX_one (i := 6) (o := _) rfl (by kernel_rfl) (fun K hK => ?_)
        have XB : Bx v4 v3.heap.size 28 #[.int .i64 0, .int .i64 0, .slice none 0 0] := (Bx.badly (Bx.new rfl) hb4 (by omega))
        have xb0 := XB.c 0 rfl
        have xb1 := XB.c 1 rfl
        have xb2 := XB.c 2 rfl
        have xbf := XB.f
        have xbl := XB.lt
        go_simp
        refine hK.out _ _ (fun _ => ?_) (fun hS4 => ?_)
        · first | exact ⟨kst3 (by omega) hS3.1, kst3 (by omega) hS3.2.1, kst3 (by omega) hS3.2.2⟩ | exact ⟨kre (by omega) hS3.1, kre (by omega) hS3.2.1, kre (by omega) hS3.2.2⟩ | exact ⟨kal hS2.1, kal hS2.2.1, kal hS2.2.2⟩
        clear hK K
        have hS4 := hS4 (by decide)
        try simp only [Act.put, List.setIfInBounds_toArray, List.set_cons_zero, List.set_cons_succ]
        refine wpAnyX_done (by kernel_rfl) ?_ _
        go_wp2_with (fail)
        go_meet
        refine ⟨_, z, zs, Bo, cq, rfl, ?_, ?_, ?_, ?_, ?_, ?_⟩
        · show Bx _ _ _ _
          exact (Bx.set (i := 2) (u := .slice Bo (R * R) cq) (Bx.set (i := 1) (u := .int .i64 (R : Int)) (Bx.set (i := 0) (u := .int .i64 (R : Int)) XB rfl) rfl) rfl)
        · show Bx _ _ _ _
          exact (Bx.far (Bx.far (Bx.far (Bx.bad gcx hb4) (by (try dsimp only); omega)) (by (try dsimp only); omega)) (by (try dsimp only); omega))
        · show Bx _ _ _ _
          exact (Bx.far (Bx.far (Bx.far (Bx.badly acx hb4 (by omega)) (by (try dsimp only); omega)) (by (try dsimp only); omega)) (by (try dsimp only); omega))
        · show Sofar _ _ _ _ _
          exact hS
        · show Rd _ _ _
          (repeat' (first | exact hRd | refine Rd.far ?_ (fun a ha => by have h9 := hBa a ha; (try dsimp only); omega) _ | exact hRd.mono (by (repeat' (first | (with_reducible exact Below.refl _ _) | (with_reducible assumption) | (with_reducible refine Below.alloc ?_ ?_ _) | (with_reducible refine Below.drew ?_) | (with_reducible refine below_drewN ?_ _) | (with_reducible refine Below.setCell ?_ ?_ _) | (with_reducible refine chain ?_ (by assumption) ?_) | omega | (simp; done) | (simp; omega))))))
        · show Below _ _ _
          have hB4 := bad_below (w := w) (by (repeat' (first | (with_reducible exact Below.refl _ _) | (with_reducible assumption) | (with_reducible refine Below.alloc ?_ ?_ _) | (with_reducible refine Below.drew ?_) | (with_reducible refine below_drewN ?_ _) | (with_reducible refine Below.setCell ?_ ?_ _) | (with_reducible refine chain ?_ (by assumption) ?_) | omega | (simp; done) | (simp; omega)))) hb4 (by omega)
          have hB4s := hB4.size
          (repeat' (first | (with_reducible exact Below.refl _ _) | (with_reducible assumption) | (with_reducible refine Below.alloc ?_ ?_ _) | (with_reducible refine Below.drew ?_) | (with_reducible refine below_drewN ?_ _) | (with_reducible refine Below.setCell ?_ ?_ _) | (with_reducible refine chain ?_ (by assumption) ?_) | omega | (simp; done) | (simp; omega)))
    · go_simp
      refine hK.out _ _ (fun _ => ?_) (fun hS1 => ?_)
      · first | exact ⟨kal hS0.1, kal hS0.2.1, kal hS0.2.2⟩ | exact ⟨kald hS0.1, kald hS0.2.1, kald hS0.2.2⟩
      clear hK K
      have hS1 := hS1 (by decide)
      try simp only [Act.put, List.setIfInBounds_toArray, List.set_cons_zero, List.set_cons_succ]
      refine wpAnyX_one (i := 3) (o := _) rfl (by kernel_rfl) (fun K hK => ?_)
      go_simp
      refine (ladj (xs := xs) (r := R) (c := R) ?_ HN.out HNN.out h5 h2 h2 HALL.out).mono ?_
      · exact HA.out.mono (by (repeat' (first | (with_reducible exact Below.refl _ _) | (with_reducible assumption) | (with_reducible refine Below.alloc ?_ ?_ _) | (with_reducible refine Below.drew ?_) | (with_reducible refine below_drewN ?_ _) | (with_reducible refine Below.setCell ?_ ?_ _) | (with_reducible refine chain ?_ (by assumption) ?_) | omega | (simp; done) | (simp; omega))))
      rintro ee v3 ⟨B, c3, rfl, hR3, hB3, hb30⟩
      have hb3 := undrew hb30
      have hz3 := hb3.size
      (try simp only [World.size_alloc, World.size_drew] at hz3 hB3)
      refine hK.out _ _ (fun _ => ?_) (fun hS2 => ?_)
      · exact ⟨kc hb30 hS1.1, kc hb30 hS1.2.1, kc hb30 hS1.2.2⟩
      clear hK K
      have hS2 := hS2 (by decide)
      try simp only [Act.put, List.setIfInBounds_toArray, List.set_cons_zero, List.set_cons_succ]
      refine wpAnyX_one (i := 4) (o := _) rfl (by kernel_rfl) (fun K hK => ?_)
      go_simp
      obtain ⟨y9, hy9⟩ : ∃ y, (tab (R * R) (adjF R R xs))[0]? = some y := ⟨_, List.getElem?_eq_getElem (by rw [tab_len]; exact Nat.mul_pos (by omega) (by omega))⟩
      obtain ⟨h0, o0, rfl, hC9⟩ := hR3 0 y9 hy9
      have hh0 := hB3 _ rfl
      (try dsimp only at hh0)
      have gcx := (Bx.mono (Bx.alloc XC.out _) hb3)
      have acx := (Bx.mono (Bx.alloc XA1.out _) hb3)
      refine (mumo (xs := xs) (ys := tab (R * R) (adjF R R xs)) (N := R * R) (gc := gc) ?_ ?_ HN.out (tab_len _ _) HO.out HAD.out rfl gcx (by omega) (by omega)).mono ?_
      · exact HA.out.mono (by (repeat' (first | (with_reducible exact Below.refl _ _) | (with_reducible assumption) | (with_reducible refine Below.alloc ?_ ?_ _) | (with_reducible refine Below.drew ?_) | (with_reducible refine below_drewN ?_ _) | (with_reducible refine Below.setCell ?_ ?_ _) | (with_reducible refine chain ?_ (by assumption) ?_) | omega | (simp; done) | (simp; omega))))
      · exact hR3.mono (by (repeat' (first | (with_reducible exact Below.refl _ _) | (with_reducible assumption) | (with_reducible refine Below.alloc ?_ ?_ _) | (with_reducible refine Below.drew ?_) | (with_reducible refine below_drewN ?_ _) | (with_reducible refine Below.setCell ?_ ?_ _) | (with_reducible refine chain ?_ (by assumption) ?_) | omega | (simp; done) | (simp; omega))))
      rintro ee v4 ⟨z, zs, Bo, cq, rfl, hS, hRd, hBa, hb4⟩
      have hz4 := bad_size hb4
      (try simp only [World.size_alloc, World.size_drew] at hz4 hBa)
      refine hK.out _ _ (fun _ => ?_) (fun hS3 => ?_)
      · exact ⟨kbad hb4 (by omega) hS2.1, kbad hb4 (by omega) hS2.2.1, kbad hb4 (by omega) hS2.2.2⟩
      clear hK K
      have hS3 := hS3 (by decide)
      try simp only [Act.put, List.setIfInBounds_toArray, List.set_cons_zero, List.set_cons_succ]
      refine wpAnyX_one (i := 6) (o := _) rfl (by kernel_rfl) (fun K hK => ?_)
      have XB : Bx v4 W1.heap.size 28 #[.int .i64 0, .int .i64 0, .slice none 0 0] := (Bx.badly (Bx.mono (Bx.new rfl) hb3) hb4 (by omega))
      have xb0 := XB.c 0 rfl
      have xb1 := XB.c 1 rfl
      have xb2 := XB.c 2 rfl
      have xbf := XB.f
      have xbl := XB.lt
      go_simp
      refine hK.out _ _ (fun _ => ?_) (fun hS4 => ?_)
      · first | exact ⟨kst3 (by omega) hS3.1, kst3 (by omega) hS3.2.1, kst3 (by omega) hS3.2.2⟩ | exact ⟨kre (by omega) hS3.1, kre (by omega) hS3.2.1, kre (by omega) hS3.2.2⟩ | exact ⟨kal hS2.1, kal hS2.2.1, kal hS2.2.2⟩
      clear hK K
      have hS4 := hS4 (by decide)
      try simp only [Act.put, List.setIfInBounds_toArray, List.set_cons_zero, List.set_cons_succ]
      refine wpAnyX_done (by kernel_rfl) ?_ _
      go_wp2_with (fail)
      go_meet
      refine ⟨_, z, zs, Bo, cq, rfl, ?_, ?_, ?_, ?_, ?_, ?_⟩
      · show Bx _ _ _ _
        exact (Bx.set (i := 2) (u := .slice Bo (R * R) cq) (Bx.set (i := 1) (u := .int .i64 (R : Int)) (Bx.set (i := 0) (u := .int .i64 (R : Int)) XB rfl) rfl) rfl)
      · show Bx _ _ _ _
        exact (Bx.far (Bx.far (Bx.far (Bx.bad gcx hb4) (by (try dsimp only); omega)) (by (try dsimp only); omega)) (by (try dsimp only); omega))
      · show Bx _ _ _ _
        exact (Bx.far (Bx.far (Bx.far (Bx.badly acx hb4 (by omega)) (by (try dsimp only); omega)) (by (try dsimp only); omega)) (by (try dsimp only); omega))
      · show Sofar _ _ _ _ _
        exact hS
      · show Rd _ _ _
        (repeat' (first | exact hRd | refine Rd.far ?_ (fun a ha => by have h9 := hBa a ha; (try dsimp only); omega) _ | exact hRd.mono (by (repeat' (first | (with_reducible exact Below.refl _ _) | (with_reducible assumption) | (with_reducible refine Below.alloc ?_ ?_ _) | (with_reducible refine Below.drew ?_) | (with_reducible refine below_drewN ?_ _) | (with_reducible refine Below.setCell ?_ ?_ _) | (with_reducible refine chain ?_ (by assumption) ?_) | omega | (simp; done) | (simp; omega))))))
      · show Below _ _ _
        have hB4 := bad_below (w := w) (by (repeat' (first | (with_reducible exact Below.refl _ _) | (with_reducible assumption) | (with_reducible refine Below.alloc ?_ ?_ _) | (with_reducible refine Below.drew ?_) | (with_reducible refine below_drewN ?_ _) | (with_reducible refine Below.setCell ?_ ?_ _) | (with_reducible refine chain ?_ (by assumption) ?_) | omega | (simp; done) | (simp; omega)))) hb4 (by omega)
        have hB4s := hB4.size
        (repeat' (first | (with_reducible exact Below.refl _ _) | (with_reducible assumption) | (with_reducible refine Below.alloc ?_ ?_ _) | (with_reducible refine Below.drew ?_) | (with_reducible refine below_drewN ?_ _) | (with_reducible refine Below.setCell ?_ ?_ _) | (with_reducible refine chain ?_ (by assumption) ?_) | omega | (simp; done) | (simp; omega)))
  case rest =>
    obtain ⟨w5, rfl⟩ : ∃ w5, w5 = wc := ⟨_, rfl⟩
    obtain ⟨b, z, zs, Bo, cq, rfl, XM, XC5, XA5, HS, HRd, HB5⟩ := hcut
    clear XC XA1 ca0 ca1 ca2 la hBW
    have hB5 := HB5.out
    have hB5s := hB5.size
    obtain rfl : z = true := by rw [HS.out.2.1]; exact HAN.out
    have cf0 := XC5.out.c 0 rfl
    go_wp2_with (fail)
    refine bodyPost_ret (v := .tuple #[.bool false, .bool false]) (by first | (simp [results, Try.results28, go_sem, *]; done) | (simp (disch := (first | omega | (simp; done) | (simp; omega))) [results, Try.results28, go_sem, *]; done) | (simp only [results, Try.results28]; go_simp; done)) rfl ⟨rfl, ?_⟩
    (repeat' (first | (with_reducible exact Below.refl _ _) | (with_reducible assumption) | (with_reducible refine Below.alloc ?_ ?_ _) | (with_reducible refine Below.drew ?_) | (with_reducible refine below_drewN ?_ _) | (with_reducible refine Below.setCell ?_ ?_ _) | (with_reducible refine chain ?_ (by assumption) ?_) | omega | (simp; done) | (simp; omega)))

set_option maxRecDepth 100000 in
set_option maxHeartbeats 16000000 in
theorem un_s_g {R : Nat} {g0 n cp : Nat} {xs : List D5} {w : World} (hA : Rd w (some ⟨g0, 0, none⟩) xs) (hn : xs.length = n) (hok : okM (R : Int) (R : Int) n xs = true) (hany : anyB (R * R) (unG R xs) = false) :
    Calls Try.prog 28 #[mv (R : Int) (R : Int) (some ⟨g0, 0, none⟩) n cp] w fun ee w' => ee = .returned (.tuple #[.bool (unE R xs), .bool true]) ∧ Below w.heap.size w w' := by
  obtain ⟨hnn, h1, h2, -, -, h5⟩ := okM_nat2 hok
  have hadj := okM_adj hok hn
  have HAD := hid hadj
  have HAN := hid hany
  have HNN := hid hnn
  have HALL := hid (okM_iff.1 hok).2.2.2
  have rr : R * R ≤ 1024 := by rw [← hnn]; exact h5
  clear hadj hany hnn
  have HA := hid hA
  have HN := hid hn
  have HO := hid hok
  clear hA hn hok
  have h0A : g0 < w.heap.size := by
    obtain ⟨x, hx⟩ : ∃ x, xs[0]? = some x := ⟨_, List.getElem?_eq_getElem (by rw [HN.out, HNN.out]; exact Nat.mul_pos (by omega) (by omega))⟩
    exact (HA.out.cx hx).lt
  go_enter Try.func28, Try.ntmps28
  go_wp2_with (fail)
  refine (vm_s_t (xs := xs) HO.out ?_ HN.out).mono ?_
  · exact HA.out.mono (by (repeat' (first | (with_reducible exact Below.refl _ _) | (with_reducible assumption) | (with_reducible refine Below.alloc ?_ ?_ _) | (with_reducible refine Below.drew ?_) | (with_reducible refine below_drewN ?_ _) | (with_reducible refine Below.setCell ?_ ?_ _) | (with_reducible refine chain ?_ (by assumption) ?_) | omega | (simp; done) | (simp; omega))))
  rintro ee w1 ⟨rfl, hb1⟩
  have Xa := hid (Bx.mono (b := w.heap.size) (t := 28) (cs := #[.int .i64 (R : Int), .int .i64 (R : Int), .slice (some ⟨g0, 0, none⟩) n cp]) (Bx.new rfl) hb1)
  have hz1 := hb1.size
  (try simp only [World.size_alloc] at hz1)
  have hB1 : Below w.heap.size w w1 := by (repeat' (first | (with_reducible exact Below.refl _ _) | (with_reducible assumption) | (with_reducible refine Below.alloc ?_ ?_ _) | (with_reducible refine Below.drew ?_) | (with_reducible refine below_drewN ?_ _) | (with_reducible refine Below.setCell ?_ ?_ _) | (with_reducible refine chain ?_ (by assumption) ?_) | omega | (simp; done) | (simp; omega)))
  have ca0 := Xa.out.c 0 rfl
  have ca1 := Xa.out.c 1 rfl
  have ca2 := Xa.out.c 2 rfl
  have la := Xa.out.lt
  clear hb1
  go_upto_region 4 with (fail)
  obtain ⟨gc, hgc⟩ : ∃ gc, gc = w1.heap.size := ⟨_, rfl⟩
  obtain ⟨W1, hW1⟩ : ∃ W, W = w1.alloc (.cells #[.bool false] 95) := ⟨_, rfl⟩
  rw [← hW1, ← hgc]
  have XC : Hid (Bx W1 gc 95 #[.bool false]) := by show Bx _ _ _ _; rw [hW1, hgc]; exact Bx.new rfl
  have hBW : Below w.heap.size w W1 := by rw [hW1]; exact hB1.alloc (by omega) _
  have XA1 : Hid (Bx W1 w.heap.size 28 #[.int .i64 (R : Int), .int .i64 (R : Int), .slice (some ⟨g0, 0, none⟩) n cp]) := by show Bx _ _ _ _; rw [hW1]; exact Xa.out.alloc _
  have hsW4 : w.heap.size < gc := by rw [hgc]; exact la
  have hsW2 : gc < W1.heap.size := XC.out.lt
  clear hW1 hgc Xa ca0 ca1 ca2 la hB1 hz1
  have ca0 := XA1.out.c 0 rfl
  have ca1 := XA1.out.c 1 rfl
  have ca2 := XA1.out.c 2 rfl
  have la := XA1.out.lt
  go_cut [5] (fun s5 wx => ∃ (b : Nat) (z : Bool) (zs : List D5) (Bo : Option Addr) (cq : Nat), s5 = .pointer (some ⟨b, 0, none⟩) ∧ Hid (Bx wx b 28 #[.int .i64 (R : Int), .int .i64 (R : Int), .slice Bo (R * R) cq]) ∧ Hid (Bx wx gc 95 #[.bool z]) ∧ Hid (Bx wx w.heap.size 28 #[.int .i64 (R : Int), .int .i64 (R : Int), .slice (some ⟨g0, 0, none⟩) n cp]) ∧ Hid (Sofar z zs (R * R) (unF R xs) (unG R xs)) ∧ Hid (Rd wx Bo zs) ∧ Hid (Below w.heap.size w wx))
  case first =>
    have yca0 : W1.drew.cell? ⟨w.heap.size, 0, none⟩ = some (.int .i64 (R : Int)) := ca0
    have yca1 : W1.drew.cell? ⟨w.heap.size, 1, none⟩ = some (.int .i64 (R : Int)) := ca1
    have yca2 : W1.drew.cell? ⟨w.heap.size, 2, none⟩ = some (.slice (some ⟨g0, 0, none⟩) n cp) := ca2
    refine wp_region_x (fun w' => w'.cell? ⟨w.heap.size, 0, none⟩ = some (.int .i64 (R : Int)) ∧ w'.cell? ⟨w.heap.size, 1, none⟩ = some (.int .i64 (R : Int)) ∧ w'.cell? ⟨w.heap.size, 2, none⟩ = some (.slice (some ⟨g0, 0, none⟩) n cp)) 1000 (by kernel_rfl) ⟨yca0, yca1, yca2⟩ (fun hS0 => ?_)
    refine wpAnyX_take (i := 0) (oi := _) (v := ?_) rfl (by kernel_rfl) (by kernel_rfl) (by kernel_rfl) (by kernel_rfl) (fun _ _ _ h => h) (Or.inl ⟨by rfl, ?_⟩) hS0 ?_
    rotate_left 1
    · (intro w hSw; (try dsimp only at hSw); go_simp; (try with_reducible rfl))
    try simp only [Act.put, List.setIfInBounds_toArray, List.set_cons_zero, List.set_cons_succ]
    refine wpAnyX_take (i := 1) (oi := _) (v := ?_) rfl (by kernel_rfl) (by kernel_rfl) (by kernel_rfl) (by kernel_rfl) (fun _ _ _ h => h) (Or.inl ⟨by rfl, ?_⟩) hS0 ?_
    rotate_left 1
    · (intro w hSw; (try dsimp only at hSw); go_simp; (try with_reducible rfl))
    try simp only [Act.put, List.setIfInBounds_toArray, List.set_cons_zero, List.set_cons_succ]
    refine wpAnyX_take (i := 2) (oi := _) (v := ?_) rfl (by kernel_rfl) (by kernel_rfl) (by kernel_rfl) (by kernel_rfl) (fun _ _ _ h => h) (Or.inl ⟨by rfl, ?_⟩) hS0 ?_
    rotate_left 1
    · (intro w hSw; (try dsimp only at hSw); go_simp; (try with_reducible rfl))
    try simp only [Act.put, List.setIfInBounds_toArray, List.set_cons_zero, List.set_cons_succ]
    refine wpAnyX_two (i := 3) (j := 5) (oi := _) (oj := _) rfl rfl (by kernel_rfl) (fun K hK => ?_) (fun K hK => ?_)
    · go_simp
      refine (ladj (xs := xs) (r := R) (c := R) ?_ HN.out HNN.out h5 h2 h2 HALL.out).mono ?_
      · exact HA.out.mono (by (repeat' (first | (with_reducible exact Below.refl _ _) | (with_reducible assumption) | (with_reducible refine Below.alloc ?_ ?_ _) | (with_reducible refine Below.drew ?_) | (with_reducible refine below_drewN ?_ _) | (with_reducible refine Below.setCell ?_ ?_ _) | (with_reducible refine chain ?_ (by assumption) ?_) | omega | (simp; done) | (simp; omega))))
      rintro ee v3 ⟨B, c3, rfl, hR3, hB3, hb30⟩
      have hb3 := undrew hb30
      have hz3 := hb3.size
      (try simp only [World.size_alloc, World.size_drew] at hz3 hB3)
      refine hK.out _ _ (fun _ => ?_) (fun hS1 => ?_)
      · exact ⟨kc hb30 hS0.1, kc hb30 hS0.2.1, kc hb30 hS0.2.2⟩
      clear hK K
      have hS1 := hS1 (by decide)
      try simp only [Act.put, List.setIfInBounds_toArray, List.set_cons_zero, List.set_cons_succ]
      refine wpAnyX_two (i := 4) (j := 5) (oi := _) (oj := _) rfl rfl (by kernel_rfl) (fun K hK => ?_) (fun K hK => ?_)
      · go_simp
        obtain ⟨y9, hy9⟩ : ∃ y, (tab (R * R) (adjF R R xs))[0]? = some y := ⟨_, List.getElem?_eq_getElem (by rw [tab_len]; exact Nat.mul_pos (by omega) (by omega))⟩
        obtain ⟨h0, o0, rfl, hC9⟩ := hR3 0 y9 hy9
        have hh0 := hB3 _ rfl
        (try dsimp only at hh0)
        have gcx := (XC.out.mono hb3)
        have acx := (XA1.out.mono hb3)
        refine (mumo (xs := xs) (ys := tab (R * R) (adjF R R xs)) (N := R * R) (gc := gc) ?_ ?_ HN.out (tab_len _ _) HO.out HAD.out rfl gcx (by omega) (by omega)).mono ?_
        · exact HA.out.mono (by (repeat' (first | (with_reducible exact Below.refl _ _) | (with_reducible assumption) | (with_reducible refine Below.alloc ?_ ?_ _) | (with_reducible refine Below.drew ?_) | (with_reducible refine below_drewN ?_ _) | (with_reducible refine Below.setCell ?_ ?_ _) | (with_reducible refine chain ?_ (by assumption) ?_) | omega | (simp; done) | (simp; omega))))
        · exact hR3.mono (by (repeat' (first | (with_reducible exact Below.refl _ _) | (with_reducible assumption) | (with_reducible refine Below.alloc ?_ ?_ _) | (with_reducible refine Below.drew ?_) | (with_reducible refine below_drewN ?_ _) | (with_reducible refine Below.setCell ?_ ?_ _) | (with_reducible refine chain ?_ (by assumption) ?_) | omega | (simp; done) | (simp; omega))))
        rintro ee v4 ⟨z, zs, Bo, cq, rfl, hS, hRd, hBa, hb4⟩
        have hz4 := bad_size hb4
        (try simp only [World.size_alloc, World.size_drew] at hz4 hBa)
        refine hK.out _ _ (fun _ => ?_) (fun hS2 => ?_)
        · exact ⟨kbad hb4 (by omega) hS1.1, kbad hb4 (by omega) hS1.2.1, kbad hb4 (by omega) hS1.2.2⟩
        clear hK K
        have hS2 := hS2 (by decide)
        try simp only [Act.put, List.setIfInBounds_toArray, List.set_cons_zero, List.set_cons_succ]
        refine wpAnyX_one (i := 5) (o := _) rfl (by kernel_rfl) (fun K hK => ?_)
        go_simp
        refine hK.out _ _ (fun _ => ?_) (fun hS3 => ?_)
        · first | exact ⟨kal hS2.1, kal hS2.2.1, kal hS2.2.2⟩ | exact ⟨kald hS2.1, kald hS2.2.1, kald hS2.2.2⟩
        clear hK K
        have hS3 := hS3 (by decide)
        try simp only [Act.put, List.setIfInBounds_toArray, List.set_cons_zero, List.set_cons_succ]
        refine wpAnyX_one (i := 6) (o := _) rfl (by kernel_rfl) (fun K hK => ?_)
        go_simp
        refine hK.out _ _ (fun _ => ?_) (fun hS4 => ?_)
        · first | exact ⟨kst3 (by omega) hS3.1, kst3 (by omega) hS3.2.1, kst3 (by omega) hS3.2.2⟩ | exact ⟨kre (by omega) hS3.1, kre (by omega) hS3.2.1, kre (by omega) hS3.2.2⟩ | exact ⟨kal hS2.1, kal hS2.2.1, kal hS2.2.2⟩
        clear hK K
        have hS4 := hS4 (by decide)
        try simp only [Act.put, List.setIfInBounds_toArray, List.set_cons_zero, List.set_cons_succ]
        refine wpAnyX_done (by kernel_rfl) ?_ _
        go_wp2_with (fail)
        go_meet
        refine ⟨_, z, zs, Bo, cq, rfl, ?_, ?_, ?_, ?_, ?_, ?_⟩
        · show Bx _ _ _ _
          (first | exact (Bx.set (i := 2) (u := .slice Bo (R * R) cq) (Bx.set (i := 1) (u := .int .i64 (R : Int)) (Bx.set (i := 0) (u := .int .i64 (R : Int)) (Bx.new (cs := #[.int .i64 0, .int .i64 0, .slice none 0 0]) (by first | rfl | (simp; done))) rfl) rfl) rfl) | exact (Bx.new (cs := #[.int .i64 (R : Int), .int .i64 (R : Int), .slice Bo (R * R) cq]) (by first | rfl | (simp; done))))
        · show Bx _ _ _ _
          (first | exact (Bx.far (Bx.far (Bx.far (Bx.alloc (Bx.bad gcx hb4) _) (by (try dsimp only); omega)) (by (try dsimp only); omega)) (by (try dsimp only); omega)) | exact (Bx.alloc (Bx.bad gcx hb4) _))
        · show Bx _ _ _ _
          (first | exact (Bx.far (Bx.far (Bx.far (Bx.alloc (Bx.badly acx hb4 (by omega)) _) (by (try dsimp only); omega)) (by (try dsimp only); omega)) (by (try dsimp only); omega)) | exact (Bx.alloc (Bx.badly acx hb4 (by omega)) _))
        · show Sofar _ _ _ _ _
          exact hS
        · show Rd _ _ _
          (repeat' (first | exact hRd | refine Rd.far ?_ (fun a ha => by have h9 := hBa a ha; (try dsimp only); omega) _ | exact hRd.mono (by (repeat' (first | (with_reducible exact Below.refl _ _) | (with_reducible assumption) | (with_reducible refine Below.alloc ?_ ?_ _) | (with_reducible refine Below.drew ?_) | (with_reducible refine below_drewN ?_ _) | (with_reducible refine Below.setCell ?_ ?_ _) | (with_reducible refine chain ?_ (by assumption) ?_) | omega | (simp; done) | (simp; omega))))))
        · show Below _ _ _
          have hB4 := bad_below (w := w) (by (repeat' (first | (with_reducible exact Below.refl _ _) | (with_reducible assumption) | (with_reducible refine Below.alloc ?_ ?_ _) | (with_reducible refine Below.drew ?_) | (with_reducible refine below_drewN ?_ _) | (with_reducible refine Below.setCell ?_ ?_ _) | (with_reducible refine chain ?_ (by assumption) ?_) | omega | (simp; done) | (simp; omega)))) hb4 (by omega)
          have hB4s := hB4.size
          (repeat' (first | (with_reducible exact Below.refl _ _) | (with_reducible assumption) | (with_reducible refine Below.alloc ?_ ?_ _) | (with_reducible refine Below.drew ?_) | (with_reducible refine below_drewN ?_ _) | (with_reducible refine Below.setCell ?_ ?_ _) | (with_reducible refine chain ?_ (by assumption) ?_) | omega | (simp; done) | (simp; omega)))
      · go_simp
        refine hK.out _ _ (fun _ => ?_) (fun hS2 => ?_)
        · first | exact ⟨kal hS1.1, kal hS1.2.1, kal hS1.2.2⟩ | exact ⟨kald hS1.1, kald hS1.2.1, kald hS1.2.2⟩
        clear hK K
        have hS2 := hS2 (by decide)
        try simp only [Act.put, List.setIfInBounds_toArray, List.set_cons_zero, List.set_cons_succ]
        refine wpAnyX_one (i := 4) (o := _) rfl (by kernel_rfl) (fun K hK => ?_)
        go_simp
        obtain ⟨y9, hy9⟩ : ∃ y, (tab (R * R) (adjF R R xs))[0]? = some y := ⟨_, List.getElem?_eq_getElem (by rw [tab_len]; exact Nat.mul_pos (by omega) (by omega))⟩
        obtain ⟨h0, o0, rfl, hC9⟩ := hR3 0 y9 hy9
        have hh0 := hB3 _ rfl
        (try dsimp only at hh0)
        have gcx := ((XC.out.mono hb3).alloc (.cells #[.int .i64 0, .int .i64 0, .slice none 0 0] 28))
        have acx := ((XA1.out.mono hb3).alloc (.cells #[.int .i64 0, .int .i64 0, .slice none 0 0] 28))
        refine (mumo (xs := xs) (ys := tab (R * R) (adjF R R xs)) (N := R * R) (gc := gc) ?_ ?_ HN.out (tab_len _ _) HO.out HAD.out rfl gcx (by omega) (by omega)).mono ?_
        · exact HA.out.mono (by (repeat' (first | (with_reducible exact Below.refl _ _) | (with_reducible assumption) | (with_reducible refine Below.alloc ?_ ?_ _) | (with_reducible refine Below.drew ?_) | (with_reducible refine below_drewN ?_ _) | (with_reducible refine Below.setCell ?_ ?_ _) | (with_reducible refine chain ?_ (by assumption) ?_) | omega | (simp; done) | (simp; omega))))
        · exact hR3.mono (by (repeat' (first | (with_reducible exact Below.refl _ _) | (with_reducible assumption) | (with_reducible refine Below.alloc ?_ ?_ _) | (with_reducible refine Below.drew ?_) | (with_reducible refine below_drewN ?_ _) | (with_reducible refine Below.setCell ?_ ?_ _) | (with_reducible refine chain ?_ (by assumption) ?_) | omega | (simp; done) | (simp; omega))))
        rintro ee v4 ⟨z, zs, Bo, cq, rfl, hS, hRd, hBa, hb4⟩
        have hz4 := bad_size hb4
        (try simp only [World.size_alloc, World.size_drew] at hz4 hBa)
        refine hK.out _ _ (fun _ => ?_) (fun hS3 => ?_)
        · exact ⟨kbad hb4 (by omega) hS2.1, kbad hb4 (by omega) hS2.2.1, kbad hb4 (by omega) hS2.2.2⟩
        clear hK K
        have hS3 := hS3 (by decide)
        try simp only [Act.put, List.setIfInBounds_toArray, List.set_cons_zero, List.set_cons_succ]
        refine wpAnyX_one (i := 6) (o := _) rfl (by kernel_rfl) (fun K hK => ?_)
        have XB : Bx v4 v3.heap.size 28 #[.int .i64 0, .int .i64 0, .slice none 0 0] := (Bx.badly (Bx.new rfl) hb4 (by omega))
        have xb0 := XB.c 0 rfl
        have xb1 := XB.c 1 rfl
        have xb2 := XB.c 2 rfl
        have xbf := XB.f
        have xbl := XB.lt
        go_simp
        refine hK.out _ _ (fun _ => ?_) (fun hS4 => ?_)
        · first | exact ⟨kst3 (by omega) hS3.1, kst3 (by omega) hS3.2.1, kst3 (by omega) hS3.2.2⟩ | exact ⟨kre (by omega) hS3.1, kre (by omega) hS3.2.1, kre (by omega) hS3.2.2⟩ | exact ⟨kal hS2.1, kal hS2.2.1, kal hS2.2.2⟩
        clear hK K
        have hS4 := hS4 (by decide)
        try simp only [Act.put, List.setIfInBounds_toArray, List.set_cons_zero, List.set_cons_succ]
        refine wpAnyX_done (by kernel_rfl) ?_ _
        go_wp2_with (fail)
        go_meet
        refine ⟨_, z, zs, Bo, cq, rfl, ?_, ?_, ?_, ?_, ?_, ?_⟩
        · show Bx _ _ _ _
          exact (Bx.set (i := 2) (u := .slice Bo (R * R) cq) (Bx.set (i := 1) (u := .int .i64 (R : Int)) (Bx.set (i := 0) (u := .int .i64 (R : Int)) XB rfl) rfl) rfl)
        · show Bx _ _ _ _
          exact (Bx.far (Bx.far (Bx.far (Bx.bad gcx hb4) (by (try dsimp only); omega)) (by (try dsimp only); omega)) (by (try dsimp only); omega))
        · show Bx _ _ _ _
          exact (Bx.far (Bx.far (Bx.far (Bx.badly acx hb4 (by omega)) (by (try dsimp only); omega)) (by (try dsimp only); omega)) (by (try dsimp only); omega))
        · show Sofar _ _ _ _ _
          exact hS
        · show Rd _ _ _
          (repeat' (first | exact hRd | refine Rd.far ?_ (fun a ha => by have h9 := hBa a ha; (try dsimp only); omega) _ | exact hRd.mono (by (repeat' (first | (with_reducible exact Below.refl _ _) | (with_reducible assumption) | (with_reducible refine Below.alloc ?_ ?_ _) | (with_reducible refine Below.drew ?_) | (with_reducible refine below_drewN ?_ _) | (with_reducible refine Below.setCell ?_ ?_ _) | (with_reducible refine chain ?_ (by assumption) ?_) | omega | (simp; done) | (simp; omega))))))
        · show Below _ _ _
          have hB4 := bad_below (w := w) (by (repeat' (first | (with_reducible exact Below.refl _ _) | (with_reducible assumption) | (with_reducible refine Below.alloc ?_ ?_ _) | (with_reducible refine Below.drew ?_) | (with_reducible refine below_drewN ?_ _) | (with_reducible refine Below.setCell ?_ ?_ _) | (with_reducible refine chain ?_ (by assumption) ?_) | omega | (simp; done) | (simp; omega)))) hb4 (by omega)
          have hB4s := hB4.size
          (repeat' (first | (with_reducible exact Below.refl _ _) | (with_reducible assumption) | (with_reducible refine Below.alloc ?_ ?_ _) | (with_reducible refine Below.drew ?_) | (with_reducible refine below_drewN ?_ _) | (with_reducible refine Below.setCell ?_ ?_ _) | (with_reducible refine chain ?_ (by assumption) ?_) | omega | (simp; done) | (simp; omega)))
    · go_simp
      refine hK.out _ _ (fun _ => ?_) (fun hS1 => ?_)
      · first | exact ⟨kal hS0.1, kal hS0.2.1, kal hS0.2.2⟩ | exact ⟨kald hS0.1, kald hS0.2.1, kald hS0.2.2⟩
      clear hK K
      have hS1 := hS1 (by decide)
      try simp only [Act.put, List.setIfInBounds_toArray, List.set_cons_zero, List.set_cons_succ]
      refine wpAnyX_one (i := 3) (o := _) rfl (by kernel_rfl) (fun K hK => ?_)
      go_simp
      refine (ladj (xs := xs) (r := R) (c := R) ?_ HN.out HNN.out h5 h2 h2 HALL.out).mono ?_
      · exact HA.out.mono (by (repeat' (first | (with_reducible exact Below.refl _ _) | (with_reducible assumption) | (with_reducible refine Below.alloc ?_ ?_ _) | (with_reducible refine Below.drew ?_) | (with_reducible refine below_drewN ?_ _) | (with_reducible refine Below.setCell ?_ ?_ _) | (with_reducible refine chain ?_ (by assumption) ?_) | omega | (simp; done) | (simp; omega))))
      rintro ee v3 ⟨B, c3, rfl, hR3, hB3, hb30⟩
      have hb3 := undrew hb30
      have hz3 := hb3.size
      (try simp only [World.size_alloc, World.size_drew] at hz3 hB3)
      refine hK.out _ _ (fun _ => ?_) (fun hS2 => ?_)
      · exact ⟨kc hb30 hS1.1, kc hb30 hS1.2.1, kc hb30 hS1.2.2⟩
      clear hK K
      have hS2 := hS2 (by decide)
      try simp only [Act.put, List.setIfInBounds_toArray, List.set_cons_zero, List.set_cons_succ]
      refine wpAnyX_one (i := 4) (o := _) rfl (by kernel_rfl) (fun K hK => ?_)
      go_simp
      obtain ⟨y9, hy9⟩ : ∃ y, (tab (R * R) (adjF R R xs))[0]? = some y := ⟨_, List.getElem?_eq_getElem (by rw [tab_len]; exact Nat.mul_pos (by omega) (by omega))⟩
      obtain ⟨h0, o0, rfl, hC9⟩ := hR3 0 y9 hy9
      have hh0 := hB3 _ rfl
      (try dsimp only at hh0)
      have gcx := (Bx.mono (Bx.alloc XC.out _) hb3)
      have acx := (Bx.mono (Bx.alloc XA1.out _) hb3)
      refine (mumo (xs := xs) (ys := tab (R * R) (adjF R R xs)) (N := R * R) (gc := gc) ?_ ?_ HN.out (tab_len _ _) HO.out HAD.out rfl gcx (by omega) (by omega)).mono ?_
      · exact HA.out.mono (by (repeat' (first | (with_reducible exact Below.refl _ _) | (with_reducible assumption) | (with_reducible refine Below.alloc ?_ ?_ _) | (with_reducible refine Below.drew ?_) | (with_reducible refine below_drewN ?_ _) | (with_reducible refine Below.setCell ?_ ?_ _) | (with_reducible refine chain ?_ (by assumption) ?_) | omega | (simp; done) | (simp; omega))))
      · exact hR3.mono (by (repeat' (first | (with_reducible exact Below.refl _ _) | (with_reducible assumption) | (with_reducible refine Below.alloc ?_ ?_ _) | (with_reducible refine Below.drew ?_) | (with_reducible refine below_drewN ?_ _) | (with_reducible refine Below.setCell ?_ ?_ _) | (with_reducible refine chain ?_ (by assumption) ?_) | omega | (simp; done) | (simp; omega))))
      rintro ee v4 ⟨z, zs, Bo, cq, rfl, hS, hRd, hBa, hb4⟩
      have hz4 := bad_size hb4
      (try simp only [World.size_alloc, World.size_drew] at hz4 hBa)
      refine hK.out _ _ (fun _ => ?_) (fun hS3 => ?_)
      · exact ⟨kbad hb4 (by omega) hS2.1, kbad hb4 (by omega) hS2.2.1, kbad hb4 (by omega) hS2.2.2⟩
      clear hK K
      have hS3 := hS3 (by decide)
      try simp only [Act.put, List.setIfInBounds_toArray, List.set_cons_zero, List.set_cons_succ]
      refine wpAnyX_one (i := 6) (o := _) rfl (by kernel_rfl) (fun K hK => ?_)
      have XB : Bx v4 W1.heap.size 28 #[.int .i64 0, .int .i64 0, .slice none 0 0] := (Bx.badly (Bx.mono (Bx.new rfl) hb3) hb4 (by omega))
      have xb0 := XB.c 0 rfl
      have xb1 := XB.c 1 rfl
      have xb2 := XB.c 2 rfl
      have xbf := XB.f
      have xbl := XB.lt
      go_simp
      refine hK.out _ _ (fun _ => ?_) (fun hS4 => ?_)
      · first | exact ⟨kst3 (by omega) hS3.1, kst3 (by omega) hS3.2.1, kst3 (by omega) hS3.2.2⟩ | exact ⟨kre (by omega) hS3.1, kre (by omega) hS3.2.1, kre (by omega) hS3.2.2⟩ | exact ⟨kal hS2.1, kal hS2.2.1, kal hS2.2.2⟩
      clear hK K
      have hS4 := hS4 (by decide)
      try simp only [Act.put, List.setIfInBounds_toArray, List.set_cons_zero, List.set_cons_succ]
      refine wpAnyX_done (by kernel_rfl) ?_ _
      go_wp2_with (fail)
      go_meet
      refine ⟨_, z, zs, Bo, cq, rfl, ?_, ?_, ?_, ?_, ?_, ?_⟩
      · show Bx _ _ _ _
        exact (Bx.set (i := 2) (u := .slice Bo (R * R) cq) (Bx.set (i := 1) (u := .int .i64 (R : Int)) (Bx.set (i := 0) (u := .int .i64 (R : Int)) XB rfl) rfl) rfl)
      · show Bx _ _ _ _
        exact (Bx.far (Bx.far (Bx.far (Bx.bad gcx hb4) (by (try dsimp only); omega)) (by (try dsimp only); omega)) (by (try dsimp only); omega))
      · show Bx _ _ _ _
        exact (Bx.far (Bx.far (Bx.far (Bx.badly acx hb4 (by omega)) (by (try dsimp only); omega)) (by (try dsimp only); omega)) (by (try dsimp only); omega))
      · show Sofar _ _ _ _ _
        exact hS
      · show Rd _ _ _
        (repeat' (first | exact hRd | refine Rd.far ?_ (fun a ha => by have h9 := hBa a ha; (try dsimp only); omega) _ | exact hRd.mono (by (repeat' (first | (with_reducible exact Below.refl _ _) | (with_reducible assumption) | (with_reducible refine Below.alloc ?_ ?_ _) | (with_reducible refine Below.drew ?_) | (with_reducible refine below_drewN ?_ _) | (with_reducible refine Below.setCell ?_ ?_ _) | (with_reducible refine chain ?_ (by assumption) ?_) | omega | (simp; done) | (simp; omega))))))
      · show Below _ _ _
        have hB4 := bad_below (w := w) (by (repeat' (first | (with_reducible exact Below.refl _ _) | (with_reducible assumption) | (with_reducible refine Below.alloc ?_ ?_ _) | (with_reducible refine Below.drew ?_) | (with_reducible refine below_drewN ?_ _) | (with_reducible refine Below.setCell ?_ ?_ _) | (with_reducible refine chain ?_ (by assumption) ?_) | omega | (simp; done) | (simp; omega)))) hb4 (by omega)
        have hB4s := hB4.size
        (repeat' (first | (with_reducible exact Below.refl _ _) | (with_reducible assumption) | (with_reducible refine Below.alloc ?_ ?_ _) | (with_reducible refine Below.drew ?_) | (with_reducible refine below_drewN ?_ _) | (with_reducible refine Below.setCell ?_ ?_ _) | (with_reducible refine chain ?_ (by assumption) ?_) | omega | (simp; done) | (simp; omega)))
  case rest =>
    obtain ⟨w5, rfl⟩ : ∃ w5, w5 = wc := ⟨_, rfl⟩
    obtain ⟨b, z, zs, Bo, cq, rfl, XM, XC5, XA5, HS, HRd, HB5⟩ := hcut
    clear XC XA1 ca0 ca1 ca2 la hBW
    have hB5 := HB5.out
    have hB5s := hB5.size
    obtain rfl : z = false := by rw [HS.out.2.1]; exact HAN.out
    have HR5 : Hid (Rd w5 Bo (tab (R * R) (unF R xs))) := by show Rd _ _ _; rw [← HS.out.2.2 rfl]; exact HRd.out
    have cf0 := XC5.out.c 0 rfl
    have cm0 := XM.out.c 0 rfl
    have cm1 := XM.out.c 1 rfl
    have cm2 := XM.out.c 2 rfl
    have ca0 := XA5.out.c 0 rfl
    clear HS HRd
    go_wp2_with (fail)
    have ycm0 : w5.drew.cell? ⟨b, 0, none⟩ = some (.int .i64 (R : Int)) := cm0
    have ycm1 : w5.drew.cell? ⟨b, 1, none⟩ = some (.int .i64 (R : Int)) := cm1
    have ycm2 : w5.drew.cell? ⟨b, 2, none⟩ = some (.slice Bo (R * R) cq) := cm2
    have yca0 : w5.drew.cell? ⟨w.heap.size, 0, none⟩ = some (.int .i64 (R : Int)) := ca0
    refine wp_region_x (fun w' => w'.cell? ⟨b, 0, none⟩ = some (.int .i64 (R : Int)) ∧ w'.cell? ⟨b, 1, none⟩ = some (.int .i64 (R : Int)) ∧ w'.cell? ⟨b, 2, none⟩ = some (.slice Bo (R * R) cq) ∧ w'.cell? ⟨w.heap.size, 0, none⟩ = some (.int .i64 (R : Int))) 1000 (by kernel_rfl) ⟨ycm0, ycm1, ycm2, yca0⟩ (fun hS0 => ?_)
    refine wpAnyX_take (i := 0) (oi := _) (v := ?_) rfl (by kernel_rfl) (by kernel_rfl) (by kernel_rfl) (by kernel_rfl) (fun _ _ _ h => h) (Or.inl ⟨by rfl, ?_⟩) hS0 ?_
    rotate_left 1
    · (intro w hSw; (try dsimp only at hSw); go_simp; (try with_reducible rfl))
    try simp only [Act.put, List.setIfInBounds_toArray, List.set_cons_zero, List.set_cons_succ]
    refine wpAnyX_take (i := 1) (oi := _) (v := ?_) rfl (by kernel_rfl) (by kernel_rfl) (by kernel_rfl) (by kernel_rfl) (fun _ _ _ h => h) (Or.inl ⟨by rfl, ?_⟩) hS0 ?_
    rotate_left 1
    · (intro w hSw; (try dsimp only at hSw); go_simp; (try with_reducible rfl))
    try simp only [Act.put, List.setIfInBounds_toArray, List.set_cons_zero, List.set_cons_succ]
    refine wpAnyX_take (i := 2) (oi := _) (v := ?_) rfl (by kernel_rfl) (by kernel_rfl) (by kernel_rfl) (by kernel_rfl) (fun _ _ _ h => h) (Or.inl ⟨by rfl, ?_⟩) hS0 ?_
    rotate_left 1
    · (intro w hSw; (try dsimp only at hSw); go_simp; (try with_reducible rfl))
    try simp only [Act.put, List.setIfInBounds_toArray, List.set_cons_zero, List.set_cons_succ]
    refine wpAnyX_one (i := 3) (o := _) rfl (by kernel_rfl) (fun K hK => ?_)
    go_simp
    refine (unit_s (N := R) (n := R * R) rfl h1 h2 rr).mono ?_
    rintro ee v6 ⟨rfl, hk6, hb60⟩
    have hb6 := undrew hb60
    have hz6 := hb6.size
    refine hK.out _ _ (fun _ => ?_) (fun hS1 => ?_)
    · exact ⟨kc hb60 (hS0.1), kc hb60 (hS0.2.1), kc hb60 (hS0.2.2.1), kc hb60 (hS0.2.2.2)⟩
    clear hK K
    have hS1 := hS1 (by decide)
    try simp only [Act.put, List.setIfInBounds_toArray, List.set_cons_zero, List.set_cons_succ]
    refine wpAnyX_one (i := 4) (o := _) rfl (by kernel_rfl) (fun K hK => ?_)
    go_simp
    refine (eqm_s (xs := tab (R * R) (unF R xs)) (ys := tab (R * R) (unitP R R)) ?_ ?_ (tab_len _ _) (tab_len _ _) (by omega) (by omega)).mono ?_
    · exact HR5.out.mono (by (repeat' (first | (with_reducible exact Below.refl _ _) | (with_reducible assumption) | (with_reducible refine Below.alloc ?_ ?_ _) | (with_reducible refine Below.drew ?_) | (with_reducible refine below_drewN ?_ _) | (with_reducible refine Below.setCell ?_ ?_ _) | (with_reducible refine chain ?_ (by assumption) ?_) | omega | (simp; done) | (simp; omega))))
    · exact hk6.rd
    rintro ee v7 ⟨he, hb7⟩
    obtain rfl : ee = .returned (.bool (unE R xs)) := he
    have hz7 := hb7.size
    refine hK.out _ _ (fun _ => ?_) (fun hS2 => ?_)
    · exact ⟨kc hb7 (hS1.1), kc hb7 (hS1.2.1), kc hb7 (hS1.2.2.1), kc hb7 (hS1.2.2.2)⟩
    clear hK K
    have hS2 := hS2 (by decide)
    try simp only [Act.put, List.setIfInBounds_toArray, List.set_cons_zero, List.set_cons_succ]
    refine wpAnyX_take (i := 5) (oi := _) (v := ?_) rfl (by kernel_rfl) (by kernel_rfl) (by kernel_rfl) (by kernel_rfl) (fun _ _ _ h => h) (Or.inl ⟨by rfl, ?_⟩) hS2 ?_
    rotate_left 1
    · (intro w hSw; (try dsimp only at hSw); go_simp; (try with_reducible rfl))
    change wpAnyX _ _ _ _ _ _ _ _ (Act.put _ (some 2) _) _
    try simp only [Act.put, List.setIfInBounds_toArray, List.set_cons_zero, List.set_cons_succ]
    refine wpAnyX_take (i := 6) (oi := _) (v := ?_) rfl (by kernel_rfl) (by kernel_rfl) (by kernel_rfl) (by kernel_rfl) (fun _ _ _ h => h) (Or.inl ⟨by rfl, ?_⟩) hS2 ?_
    rotate_left 1
    · (intro w hSw; (try dsimp only at hSw); go_simp; (try with_reducible rfl))
    change wpAnyX _ _ _ _ _ _ _ _ (Act.put _ (some 3) _) _
    try simp only [Act.put, List.setIfInBounds_toArray, List.set_cons_zero, List.set_cons_succ]
    refine wpAnyX_done (by kernel_rfl) ?_ _
    go_wp2_with (fail)
    refine bodyPost_ret (v := .tuple #[.bool (unE R xs), .bool true]) (by first | (simp [results, Try.results28, go_sem, *]; done) | (simp (disch := (first | omega | (simp; done) | (simp; omega))) [results, Try.results28, go_sem, *]; done) | (simp only [results, Try.results28]; go_simp; done)) rfl ⟨rfl, ?_⟩
    (repeat' (first | (with_reducible exact Below.refl _ _) | (with_reducible assumption) | (with_reducible refine Below.alloc ?_ ?_ _) | (with_reducible refine Below.drew ?_) | (with_reducible refine below_drewN ?_ _) | (with_reducible refine Below.setCell ?_ ?_ _) | (with_reducible refine chain ?_ (by assumption) ?_) | omega | (simp; done) | (simp; omega)))

end Go.Proofs.Ytnjckeadcbfogaa
