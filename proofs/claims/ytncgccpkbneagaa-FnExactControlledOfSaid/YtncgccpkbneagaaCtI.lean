/- ControlledOf: what the program answers. -/
import Derived.Test.YtncgccpkbneagaaCtD
namespace Go.Proofs.Ytncgccpkbneagaa
open Go.RowKit RM
set_option linter.unusedVariables false
set_option linter.unusedSimpArgs false
attribute [local irreducible] World.setCell

set_option maxRecDepth 100000 in
set_option maxHeartbeats 8000000 in
theorem ct_i_t {R N NN : Nat} {g0 n cp : Nat} {xs : List D5} {w : World} (hA : Rd w (some ⟨g0, 0, none⟩) xs) (hn : xs.length = n) (hok : okM (R : Int) (R : Int) n xs = true) (hN : N = 2 * R) (hNN : NN = N * N) (hr : R ≤ 16) (hc1 : n ≤ cp) (hc2 : cp ≤ 1048576) :
    Calls Try.prog 64 #[mv (R : Int) (R : Int) (some ⟨g0, 0, none⟩) n cp] w fun ee w' => ∃ g : Nat, ee = .returned (mt (N : Int) (N : Int) (some ⟨g, 0, none⟩) NN NN true) ∧ Bk w' g 37 (tab NN (ctP R N xs R 0)) ∧ w.heap.size ≤ g ∧ Below w.heap.size w w' := by
  obtain ⟨hnn, a1, a2, a3, a4, a5⟩ := okM_nat2 hok
  have hd : dimB (N : Int) = true := by rw [hN]; exact ct_dim (okM_iff.1 hok).1 hr
  have hr2 : (R : Int) ≤ 16 := by omega
  have n1 : 1 ≤ N := by omega
  have n2 : N ≤ 32 := by omega
  have nn5 : NN ≤ 1024 := by rw [hNN]; exact Nat.mul_le_mul n2 n2
  have e2 : (2 : Int) * (R : Int) = (N : Int) := by omega
  have nw : IntKind.i64.wrap (N : Int) = (N : Int) := IntWalk.i64_in _ (by omega)
  have HD := hid hd
  have HA := hid hA
  have HN := hid hn
  have HO := hid hok
  have HNN := hid hnn
  have EN := hid hN
  have EQ := hid hNN
  clear hd hA hn hok hnn hN hNN
  have h0A : g0 < w.heap.size := by
    obtain ⟨x, hx⟩ : ∃ x, xs[0]? = some x := ⟨_, List.getElem?_eq_getElem (by rw [HN.out, HNN.out]; exact Nat.mul_pos (by omega) (by omega))⟩
    exact (HA.out.cx hx).lt
  have hs5 := size5
  have HS5 := hid hs5
  clear hs5
  go_enter Try.func64, Try.ntmps64
  go_wp2_with (fail)
  refine (vm_i_t (xs := xs) HO.out ?_ HN.out).mono ?_
  · exact HA.out.mono (by (repeat' (first | (with_reducible exact Below.refl _ _) | (with_reducible assumption) | (with_reducible refine Below.alloc ?_ ?_ _) | (with_reducible refine Below.drew ?_) | (with_reducible refine below_drewN ?_ _) | (with_reducible refine Below.setCell ?_ ?_ _) | (with_reducible refine chain ?_ (by assumption) ?_) | omega | (simp; done) | (simp; omega))))
  rintro ee w1 ⟨rfl, hb1⟩
  have hz1 := hb1.size
  (try simp only [World.size_alloc] at hz1)
  have Xa1 : Hid (Bx w1 (w.heap.size) 26 #[.int .i64 (R : Int), .int .i64 (R : Int), .slice (some ⟨g0, 0, none⟩) n cp]) := by show Bx _ _ _ _; (repeat' (first | (with_reducible assumption) | (refine Bx.new (by first | (with_reducible rfl) | (simp; done))) | (with_reducible refine Bx.alloc ?_ _) | (with_reducible refine Bx.drew ?_) | (with_reducible refine Bx.drewN ?_ _) | (with_reducible refine Bx.mono ?_ (by assumption)) | (with_reducible refine Bx.badly ?_ (by assumption) (by omega)) | (with_reducible refine Bx.far ?_ (by (try simp only [World.size_alloc, World.size_drew]); omega)) | (with_reducible refine Bx.set ?_ rfl) | (with_reducible refine Bx.grown ?_ (by assumption) (by assumption))))
  have Xz1 : Hid (Bx w1 (w.heap.size + 1) 26 #[.int .i64 0, .int .i64 0, .slice none 0 0]) := by show Bx _ _ _ _; (repeat' (first | (with_reducible assumption) | (refine Bx.new (by first | (with_reducible rfl) | (simp; done))) | (with_reducible refine Bx.alloc ?_ _) | (with_reducible refine Bx.drew ?_) | (with_reducible refine Bx.drewN ?_ _) | (with_reducible refine Bx.mono ?_ (by assumption)) | (with_reducible refine Bx.badly ?_ (by assumption) (by omega)) | (with_reducible refine Bx.far ?_ (by (try simp only [World.size_alloc, World.size_drew]); omega)) | (with_reducible refine Bx.set ?_ rfl) | (with_reducible refine Bx.grown ?_ (by assumption) (by assumption))))
  have hw1 : Below w.heap.size w w1 := by (repeat' (first | (with_reducible exact Below.refl _ _) | (with_reducible assumption) | (with_reducible refine Below.alloc ?_ ?_ _) | (with_reducible refine Below.drew ?_) | (with_reducible refine below_drewN ?_ _) | (with_reducible refine Below.setCell ?_ ?_ _) | (with_reducible refine chain ?_ (by assumption) ?_) | omega | (simp; done) | (simp; omega)))
  have ca0 := Xa1.out.c 0 rfl
  have ca1 := Xa1.out.c 1 rfl
  have ca2 := Xa1.out.c 2 rfl
  have la := Xa1.out.lt
  have cz0 := Xz1.out.c 0 rfl
  have cz1 := Xz1.out.c 1 rfl
  have cz2 := Xz1.out.c 2 rfl
  have lz := Xz1.out.lt
  have fz := Xz1.out.f
  go_wp2_with (fail)
  refine (id_i_t (N := N) (n := NN) HD.out EQ.out n1 n2 nn5).mono ?_
  rintro ee w2 ⟨g, rfl, hK2, hg2, hb2⟩
  have hz2 := hb2.size
  have hlg := hK2.lt
  have hw2 : Below w.heap.size w w2 := chain hw1 hb2 hw1.size
  have HK2 := hid hK2
  clear hK2
  clear ca0 ca1 ca2 la cz0 cz1 cz2 lz fz
  have Xa2 := hid (Xa1.out.mono hb2)
  have Xz2 := hid (Xz1.out.mono hb2)
  clear Xa1 Xz1
  have ca0 := Xa2.out.c 0 rfl
  have ca1 := Xa2.out.c 1 rfl
  have ca2 := Xa2.out.c 2 rfl
  have la := Xa2.out.lt
  have cz0 := Xz2.out.c 0 rfl
  have cz1 := Xz2.out.c 1 rfl
  have cz2 := Xz2.out.c 2 rfl
  have lz := Xz2.out.lt
  have fz := Xz2.out.f
  go_wp2_with (fail)
  go_loopg [32] R (fun q s1 wo => ∃ i : Nat, i + q = R ∧ s1 = .int .i64 (i : Int) ∧ Hid (Bx wo (w.heap.size) 26 #[.int .i64 (R : Int), .int .i64 (R : Int), .slice (some ⟨g0, 0, none⟩) n cp]) ∧ Hid (Bx wo (w.heap.size + 1) 26 #[.int .i64 0, .int .i64 0, .slice none 0 0]) ∧ Hid (Bx wo (w2.heap.size) 26 #[.int .i64 (N : Int), .int .i64 (N : Int), .slice (some ⟨g, 0, none⟩) NN NN]) ∧ Hid (Bk wo g 37 (tab NN (ctP R N xs i 0))) ∧ w2.heap.size + 1 ≤ wo.heap.size ∧ Below w.heap.size w wo)
  case atStart =>
    have R1 := Xa2.out
    have R2 := Xz2.out
    refine ⟨0, by omega, rfl, (by show Bx _ _ _ _; (repeat' (first | (with_reducible assumption) | (with_reducible refine Bx.alloc ?_ _) | (with_reducible refine Bx.drew ?_) | (with_reducible refine Bx.drewN ?_ _) | (with_reducible refine Bx.mono ?_ (by assumption)) | (with_reducible refine Bx.badly ?_ (by assumption) (by omega)) | (with_reducible refine Bx.far ?_ (by (try simp only [World.size_alloc, World.size_drew]); omega)) | (with_reducible refine Bx.set ?_ rfl) | (with_reducible refine Bx.grown ?_ (by assumption) (by assumption))))), (by show Bx _ _ _ _; (repeat' (first | (with_reducible assumption) | (with_reducible refine Bx.alloc ?_ _) | (with_reducible refine Bx.drew ?_) | (with_reducible refine Bx.drewN ?_ _) | (with_reducible refine Bx.mono ?_ (by assumption)) | (with_reducible refine Bx.badly ?_ (by assumption) (by omega)) | (with_reducible refine Bx.far ?_ (by (try simp only [World.size_alloc, World.size_drew]); omega)) | (with_reducible refine Bx.set ?_ rfl) | (with_reducible refine Bx.grown ?_ (by assumption) (by assumption))))), (by show Bx _ _ _ _; (repeat' (first | (with_reducible assumption) | (refine Bx.new (by first | (with_reducible rfl) | (simp; done))) | (with_reducible refine Bx.alloc ?_ _) | (with_reducible refine Bx.drew ?_) | (with_reducible refine Bx.drewN ?_ _) | (with_reducible refine Bx.mono ?_ (by assumption)) | (with_reducible refine Bx.badly ?_ (by assumption) (by omega)) | (with_reducible refine Bx.far ?_ (by (try simp only [World.size_alloc, World.size_drew]); omega)) | (with_reducible refine Bx.set ?_ rfl) | (with_reducible refine Bx.grown ?_ (by assumption) (by assumption))))), ?_, by simp, by (repeat' (first | (with_reducible exact Below.refl _ _) | (with_reducible assumption) | (with_reducible refine Below.alloc ?_ ?_ _) | (with_reducible refine Below.drew ?_) | (with_reducible refine below_drewN ?_ _) | (with_reducible refine Below.setCell ?_ ?_ _) | (with_reducible refine chain ?_ (by assumption) ?_) | omega | (simp; done) | (simp; omega)))⟩
    show Bk _ _ _ _
    rw [ctP_0]
    exact HK2.out.alloc _
  case round =>
    obtain ⟨i, hi, rfl, Xa, Xz, Xo, HG, hsz, hB⟩ := hrel
    obtain ⟨wo, rfl⟩ : ∃ wo, wo = wr := ⟨_, rfl⟩
    clear ca0 ca1 ca2 la cz0 cz1 cz2 lz fz
    clear Xa2 Xz2 HK2
    have ca0 := Xa.out.c 0 rfl
    have ca1 := Xa.out.c 1 rfl
    have ca2 := Xa.out.c 2 rfl
    have la := Xa.out.lt
    have cz0 := Xz.out.c 0 rfl
    have cz1 := Xz.out.c 1 rfl
    have cz2 := Xz.out.c 2 rfl
    have lz := Xz.out.lt
    have fz := Xz.out.f
    have co0 := Xo.out.c 0 rfl
    have co1 := Xo.out.c 1 rfl
    have co2 := Xo.out.c 2 rfl
    have lo := Xo.out.lt
    cases gk with
    | zero =>
      obtain rfl : i = R := by omega
      have hBq := hB.size
      go_wp2_with (fail)
      refine bodyPost_ret (v := mt (N : Int) (N : Int) (some ⟨g, 0, none⟩) NN NN true) (by first | (simp [results, Try.results64, go_sem, *]; done) | (simp (disch := (first | omega | (simp; done) | (simp; omega))) [results, Try.results64, go_sem, *]; done) | (simp only [results, Try.results64]; go_simp; done)) rfl ⟨g, rfl, ?_, ?_, ?_⟩
      · (repeat' (first | exact HG.out | refine Bk.far ?_ (by show g ≠ w.heap.size + 1; omega) _))
      · omega
      · (repeat' (first | (with_reducible exact Below.refl _ _) | (with_reducible assumption) | (with_reducible refine Below.alloc ?_ ?_ _) | (with_reducible refine Below.drew ?_) | (with_reducible refine below_drewN ?_ _) | (with_reducible refine Below.setCell ?_ ?_ _) | (with_reducible refine chain ?_ (by assumption) ?_) | omega | (simp; done) | (simp; omega)))
    | succ m9 =>
      have hlti : i < R := by omega
      have i1 : (i : Int) < (R : Int) := by omega
      have hBq := hB.size
      obtain ⟨p, hp⟩ : ∃ p, p = R + i := ⟨_, rfl⟩
      have e3 : (R : Int) + (i : Int) = (p : Int) := by omega
      obtain ⟨s, s1, s2, s3, s4⟩ := row_at (i := p) EQ.out (by rw [EN.out]; omega)
      obtain ⟨t, t1, t2, t3, t4⟩ := row_at (i := i) HNN.out hlti
      have SS1 := hid s1
      have SS2 := hid s2
      have SS4 := hid s4
      have ST1 := hid t1
      have ST2 := hid t2
      have ST4 := hid t4
      have HPP := hid hp
      have w0 : IntKind.i64.wrap (p : Int) = (p : Int) := IntWalk.i64_in _ (by omega)
      have w1' : IntKind.i64.wrap ((R : Int) + (i : Int)) = (p : Int) := by rw [e3]; exact w0
      have v1 : ¬ (N = R) := by have := EN.out; omega
      have v2 : N - R = R := by have := EN.out; omega
      have v3 : (R : Int) ≤ N := by have := EN.out; omega
      have v4 : (N : Int) ≤ 1048576 := by omega
      have v5 : (p : Int) ≤ 1048576 := by omega
      clear s1 s2 s4 t1 t2 t4 hp
      go_wp2_with (fail)
      have yca0 : wo.drew.cell? ⟨w.heap.size, 0, none⟩ = some (.int .i64 (R : Int)) := ca0
      have yca1 : wo.drew.cell? ⟨w.heap.size, 1, none⟩ = some (.int .i64 (R : Int)) := ca1
      have yca2 : wo.drew.cell? ⟨w.heap.size, 2, none⟩ = some (.slice (some ⟨g0, 0, none⟩) n cp) := ca2
      have yco0 : wo.drew.cell? ⟨w2.heap.size, 0, none⟩ = some (.int .i64 (N : Int)) := co0
      have yco1 : wo.drew.cell? ⟨w2.heap.size, 1, none⟩ = some (.int .i64 (N : Int)) := co1
      have yco2 : wo.drew.cell? ⟨w2.heap.size, 2, none⟩ = some (.slice (some ⟨g, 0, none⟩) NN NN) := co2
      refine wp_region_x (fun w' => w'.cell? ⟨w.heap.size, 0, none⟩ = some (.int .i64 (R : Int)) ∧ w'.cell? ⟨w.heap.size, 1, none⟩ = some (.int .i64 (R : Int)) ∧ w'.cell? ⟨w.heap.size, 2, none⟩ = some (.slice (some ⟨g0, 0, none⟩) n cp) ∧ w'.cell? ⟨w2.heap.size, 0, none⟩ = some (.int .i64 (N : Int)) ∧ w'.cell? ⟨w2.heap.size, 1, none⟩ = some (.int .i64 (N : Int)) ∧ w'.cell? ⟨w2.heap.size, 2, none⟩ = some (.slice (some ⟨g, 0, none⟩) NN NN)) 1000 (by kernel_rfl) ⟨yca0, yca1, yca2, yco0, yco1, yco2⟩ (fun hS0 => ?_)
      refine wpAnyX_take (i := 0) (oi := _) (v := ?_) rfl (by kernel_rfl) (by kernel_rfl) (by kernel_rfl) (by kernel_rfl) (fun _ _ _ h => h) (Or.inl ⟨by rfl, ?_⟩) hS0 ?_
      rotate_left 1
      · (intro w hSw; (try dsimp only at hSw); go_simp; (try with_reducible rfl))
      try simp only [Act.put, List.setIfInBounds_toArray, List.set_cons_zero, List.set_cons_succ]
      refine wpAnyX_take (i := 1) (oi := _) (v := ?_) rfl (by kernel_rfl) (by kernel_rfl) (by kernel_rfl) (by kernel_rfl) (fun _ _ _ h => h) (Or.inl ⟨by rfl, ?_⟩) hS0 ?_
      rotate_left 1
      · (intro w hSw; (try dsimp only at hSw); go_simp; (try with_reducible rfl))
      try simp only [Act.put, List.setIfInBounds_toArray, List.set_cons_zero, List.set_cons_succ]
      refine wpAnyX_take (i := 2) (oi := _) (v := ?_) rfl (by kernel_rfl) (by kernel_rfl) (by kernel_rfl) (by kernel_rfl) (fun _ _ _ h => h) (Or.inl ⟨by rfl, ?_⟩) hS0 ?_
      rotate_left 1
      · (intro w hSw; (try dsimp only at hSw); go_simp; (try with_reducible rfl))
      try simp only [Act.put, List.setIfInBounds_toArray, List.set_cons_zero, List.set_cons_succ]
      refine wpAnyX_take (i := 3) (oi := _) (v := ?_) rfl (by kernel_rfl) (by kernel_rfl) (by kernel_rfl) (by kernel_rfl) (fun _ _ _ h => h) (Or.inl ⟨by rfl, ?_⟩) hS0 ?_
      rotate_left 1
      · (intro w hSw; (try dsimp only at hSw); go_simp; (try with_reducible rfl))
      try simp only [Act.put, List.setIfInBounds_toArray, List.set_cons_zero, List.set_cons_succ]
      refine wpAnyX_take (i := 4) (oi := _) (v := ?_) rfl (by kernel_rfl) (by kernel_rfl) (by kernel_rfl) (by kernel_rfl) (fun _ _ _ h => h) (Or.inl ⟨by rfl, ?_⟩) hS0 ?_
      rotate_left 1
      · (intro w hSw; (try dsimp only at hSw); go_simp; (try with_reducible rfl))
      try simp only [Act.put, List.setIfInBounds_toArray, List.set_cons_zero, List.set_cons_succ]
      refine wpAnyX_take (i := 6) (oi := _) (v := ?_) rfl (by kernel_rfl) (by kernel_rfl) (by kernel_rfl) (by kernel_rfl) (fun _ _ _ h => h) (Or.inl ⟨by rfl, ?_⟩) hS0 ?_
      rotate_left 1
      · (intro w hSw; (try dsimp only at hSw); go_simp; (try with_reducible rfl))
      try simp only [Act.put, List.setIfInBounds_toArray, List.set_cons_zero, List.set_cons_succ]
      refine wpAnyX_take (i := 7) (oi := _) (v := ?_) rfl (by kernel_rfl) (by kernel_rfl) (by kernel_rfl) (by kernel_rfl) (fun _ _ _ h => h) (Or.inl ⟨by rfl, ?_⟩) hS0 ?_
      rotate_left 1
      · (intro w hSw; (try dsimp only at hSw); go_simp; (try with_reducible rfl))
      try simp only [Act.put, List.setIfInBounds_toArray, List.set_cons_zero, List.set_cons_succ]
      refine wpAnyX_take (i := 9) (oi := _) (v := ?_) rfl (by kernel_rfl) (by kernel_rfl) (by kernel_rfl) (by kernel_rfl) (fun _ _ _ h => h) (Or.inl ⟨by rfl, ?_⟩) hS0 ?_
      rotate_left 1
      · (intro w hSw; (try dsimp only at hSw); go_simp; (try with_reducible rfl))
      try simp only [Act.put, List.setIfInBounds_toArray, List.set_cons_zero, List.set_cons_succ]
      refine wpAnyX_take (i := 10) (oi := _) (v := ?_) rfl (by kernel_rfl) (by kernel_rfl) (by kernel_rfl) (by kernel_rfl) (fun _ _ _ h => h) (Or.inl ⟨by rfl, ?_⟩) hS0 ?_
      rotate_left 1
      · (intro w hSw; (try dsimp only at hSw); go_simp; (try with_reducible rfl))
      try simp only [Act.put, List.setIfInBounds_toArray, List.set_cons_zero, List.set_cons_succ]
      refine wpAnyX_one (i := 5) (o := _) rfl (by kernel_rfl) (fun K hK => ?_)
      go_simp
      refine (rw_i (i := p) (s := s) SS1.out SS2.out (by omega) (by omega) n1 (by omega)).mono ?_
      rintro ee w8 ⟨rfl, hb80⟩
      have hb8 := undrewC hb80
      have hz8 := hb8.size
      refine hK.out _ _ (fun _ => ?_) (fun hS1 => ?_)
      · exact ⟨kc hb80 (hS0.1), kc hb80 (hS0.2.1), kc hb80 (hS0.2.2.1), kc hb80 (hS0.2.2.2.1), kc hb80 (hS0.2.2.2.2.1), kc hb80 (hS0.2.2.2.2.2)⟩
      clear hK K
      have hS1 := hS1 (by decide)
      try simp only [Act.put, List.setIfInBounds_toArray, List.set_cons_zero, List.set_cons_succ]
      refine wpAnyX_two (i := 8) (j := 11) (oi := _) (oj := _) rfl rfl (by kernel_rfl) (fun K hK => ?_) (fun K hK => ?_)
      · go_simp
        refine hK.out _ _ (fun _ => ?_) (fun hS2 => ?_)
        · exact hS1
        clear hK K
        have hS2 := hS2 (by decide)
        try simp only [Act.put, List.setIfInBounds_toArray, List.set_cons_zero, List.set_cons_succ]
        refine wpAnyX_one (i := 11) (o := _) rfl (by kernel_rfl) (fun K hK => ?_)
        go_simp
        refine (rw_i (i := i) (s := t) ST1.out ST2.out (by omega) hc2 (by omega) (by omega)).mono ?_
        rintro ee w9 ⟨rfl, hb9⟩
        have hz9 := hb9.size
        refine hK.out _ _ (fun _ => ?_) (fun hS3 => ?_)
        · exact ⟨kc hb9 (hS2.1), kc hb9 (hS2.2.1), kc hb9 (hS2.2.2.1), kc hb9 (hS2.2.2.2.1), kc hb9 (hS2.2.2.2.2.1), kc hb9 (hS2.2.2.2.2.2)⟩
        clear hK K
        have hS3 := hS3 (by decide)
        try simp only [Act.put, List.setIfInBounds_toArray, List.set_cons_zero, List.set_cons_succ]
        refine wpAnyX_one (i := 12) (o := _) rfl (by kernel_rfl) (fun K hK => ?_)
        have hB9 : Below w.heap.size w w9 := chain (chain hB hb8 hBq) hb9 (by omega)
        have hG9 := (HG.out.mono hb8).mono hb9
        have hr9 : Rd w9 (some ⟨g0, t * 5, none⟩) ((xs.drop t).take R) := by
          have h9 := ((HA.out.mono hB9).sub t).take R
          rw [Nat.zero_add] at h9
          exact h9
        have hl9 : ((xs.drop t).take R).length = R := by rw [List.length_take, List.length_drop, HN.out]; omega
        refine step_copy5 rfl (.tmp 43) (.tmp 46) 24 24 (by rfl) 37 Try.underlying24 HS5.out g (s + R) (s * 5 + R * 5) R R g0 (t * 5) R (by first | rfl | (show Value.slice _ (N - R) (N - R) = _; rw [v2])) (by rfl) (by rw [Nat.add_mul]) _ _ 37 hG9 hr9 hl9 (by rw [tab_len]; have := EN.out; omega) w.heap.size w hB9 (by omega) ?_
        intro w10 hK10 hb10 hk10 hz10
        refine hK.out _ _ (fun _ => ?_) (fun hS4 => ?_)
        · exact ⟨(World.cell?_of_block (a := ⟨w.heap.size, 0, none⟩) (hk10 _ (by dsimp only; omega))).trans (hS3.1), (World.cell?_of_block (a := ⟨w.heap.size, 1, none⟩) (hk10 _ (by dsimp only; omega))).trans (hS3.2.1), (World.cell?_of_block (a := ⟨w.heap.size, 2, none⟩) (hk10 _ (by dsimp only; omega))).trans (hS3.2.2.1), (World.cell?_of_block (a := ⟨w2.heap.size, 0, none⟩) (hk10 _ (by dsimp only; omega))).trans (hS3.2.2.2.1), (World.cell?_of_block (a := ⟨w2.heap.size, 1, none⟩) (hk10 _ (by dsimp only; omega))).trans (hS3.2.2.2.2.1), (World.cell?_of_block (a := ⟨w2.heap.size, 2, none⟩) (hk10 _ (by dsimp only; omega))).trans (hS3.2.2.2.2.2)⟩
        clear hK K
        have hS4 := hS4 (by decide)
        try simp only [Act.put, List.setIfInBounds_toArray, List.set_cons_zero, List.set_cons_succ]
        refine wpAnyX_done (by kernel_rfl) ?_ _
        rw [tab_copy (by have := EN.out; omega) hl9] at hK10
        have HK10 := hid hK10
        have Ya := hid (show Bx _ _ _ _ from (hk10 _ (by omega)).trans ((Xa.out.mono hb8).mono hb9))
        have Yz := hid (show Bx _ _ _ _ from (hk10 _ (by omega)).trans ((Xz.out.mono hb8).mono hb9))
        have Yo := hid (show Bx _ _ _ _ from (hk10 _ (by omega)).trans ((Xo.out.mono hb8).mono hb9))
        clear hK10 hk10
        go_wp2_with (fail)
        go_roundg m9
        case measure => omega
        case rel =>
          refine ⟨i + 1, by omega, by go_num, Ya, Yz, Yo, ?_, by omega, hb10⟩
          show Bk _ _ _ _
          rw [← ctP_copy (k := s + R) (row := (xs.drop t).take R) EN.out hlti (by rw [SS4.out, HPP.out]) (by have := EN.out; omega) (fun r hr => by rw [row_getD hr, ST4.out])]
          exact HK10.out
      · go_simp
        refine (rw_i (i := i) (s := t) ST1.out ST2.out (by omega) hc2 (by omega) (by omega)).mono ?_
        rintro ee w9 ⟨rfl, hb9⟩
        have hz9 := hb9.size
        refine hK.out _ _ (fun _ => ?_) (fun hS2 => ?_)
        · exact ⟨kc hb9 (hS1.1), kc hb9 (hS1.2.1), kc hb9 (hS1.2.2.1), kc hb9 (hS1.2.2.2.1), kc hb9 (hS1.2.2.2.2.1), kc hb9 (hS1.2.2.2.2.2)⟩
        clear hK K
        have hS2 := hS2 (by decide)
        try simp only [Act.put, List.setIfInBounds_toArray, List.set_cons_zero, List.set_cons_succ]
        refine wpAnyX_one (i := 8) (o := _) rfl (by kernel_rfl) (fun K hK => ?_)
        go_simp
        refine hK.out _ _ (fun _ => ?_) (fun hS3 => ?_)
        · exact hS2
        clear hK K
        have hS3 := hS3 (by decide)
        try simp only [Act.put, List.setIfInBounds_toArray, List.set_cons_zero, List.set_cons_succ]
        refine wpAnyX_one (i := 12) (o := _) rfl (by kernel_rfl) (fun K hK => ?_)
        have hB9 : Below w.heap.size w w9 := chain (chain hB hb8 hBq) hb9 (by omega)
        have hG9 := (HG.out.mono hb8).mono hb9
        have hr9 : Rd w9 (some ⟨g0, t * 5, none⟩) ((xs.drop t).take R) := by
          have h9 := ((HA.out.mono hB9).sub t).take R
          rw [Nat.zero_add] at h9
          exact h9
        have hl9 : ((xs.drop t).take R).length = R := by rw [List.length_take, List.length_drop, HN.out]; omega
        refine step_copy5 rfl (.tmp 43) (.tmp 46) 24 24 (by rfl) 37 Try.underlying24 HS5.out g (s + R) (s * 5 + R * 5) R R g0 (t * 5) R (by first | rfl | (show Value.slice _ (N - R) (N - R) = _; rw [v2])) (by rfl) (by rw [Nat.add_mul]) _ _ 37 hG9 hr9 hl9 (by rw [tab_len]; have := EN.out; omega) w.heap.size w hB9 (by omega) ?_
        intro w10 hK10 hb10 hk10 hz10
        refine hK.out _ _ (fun _ => ?_) (fun hS4 => ?_)
        · exact ⟨(World.cell?_of_block (a := ⟨w.heap.size, 0, none⟩) (hk10 _ (by dsimp only; omega))).trans (hS3.1), (World.cell?_of_block (a := ⟨w.heap.size, 1, none⟩) (hk10 _ (by dsimp only; omega))).trans (hS3.2.1), (World.cell?_of_block (a := ⟨w.heap.size, 2, none⟩) (hk10 _ (by dsimp only; omega))).trans (hS3.2.2.1), (World.cell?_of_block (a := ⟨w2.heap.size, 0, none⟩) (hk10 _ (by dsimp only; omega))).trans (hS3.2.2.2.1), (World.cell?_of_block (a := ⟨w2.heap.size, 1, none⟩) (hk10 _ (by dsimp only; omega))).trans (hS3.2.2.2.2.1), (World.cell?_of_block (a := ⟨w2.heap.size, 2, none⟩) (hk10 _ (by dsimp only; omega))).trans (hS3.2.2.2.2.2)⟩
        clear hK K
        have hS4 := hS4 (by decide)
        try simp only [Act.put, List.setIfInBounds_toArray, List.set_cons_zero, List.set_cons_succ]
        refine wpAnyX_done (by kernel_rfl) ?_ _
        rw [tab_copy (by have := EN.out; omega) hl9] at hK10
        have HK10 := hid hK10
        have Ya := hid (show Bx _ _ _ _ from (hk10 _ (by omega)).trans ((Xa.out.mono hb8).mono hb9))
        have Yz := hid (show Bx _ _ _ _ from (hk10 _ (by omega)).trans ((Xz.out.mono hb8).mono hb9))
        have Yo := hid (show Bx _ _ _ _ from (hk10 _ (by omega)).trans ((Xo.out.mono hb8).mono hb9))
        clear hK10 hk10
        go_wp2_with (fail)
        go_roundg m9
        case measure => omega
        case rel =>
          refine ⟨i + 1, by omega, by go_num, Ya, Yz, Yo, ?_, by omega, hb10⟩
          show Bk _ _ _ _
          rw [← ctP_copy (k := s + R) (row := (xs.drop t).take R) EN.out hlti (by rw [SS4.out, HPP.out]) (by have := EN.out; omega) (fun r hr => by rw [row_getD hr, ST4.out])]
          exact HK10.out

end Go.Proofs.Ytncgccpkbneagaa
