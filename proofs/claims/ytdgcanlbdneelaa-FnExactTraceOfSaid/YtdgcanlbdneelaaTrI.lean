/- The program's TraceOf. -/
import Derived.Test.YtdgcanlbdneelaaTrS
import Derived.Test.YtdgcanlbdneelaaCutG
namespace Go.Proofs.Ytdgcanlbdneelaa
open Go.RowKit RM
set_option linter.unusedVariables false
set_option linter.unusedSimpArgs false
attribute [local irreducible] World.setCell

set_option maxRecDepth 100000 in
set_option maxHeartbeats 4000000 in
theorem tr_i_v {r c : Int} {g0 n cp : Nat} {xs : List D5} {w : World} (hA : Rd w (some ⟨g0, 0, none⟩) xs) (hn : xs.length = n) (hok : okM r c n xs = false) :
    Calls Try.prog 23 #[mv r c (some ⟨g0, 0, none⟩) n cp] w fun ee w' => ee = .returned (dt 0 0 0 0 0 false) ∧ Below w.heap.size w w' := by
  have HA := hid hA
  have HN := hid hn
  have HO := hid hok
  clear hA hn hok
  go_enter Try.func23, Try.ntmps23
  go_wp2_with (fail)
  refine (vm_i_f (xs := xs) HO.out ?_ HN.out).mono ?_
  · exact HA.out.mono (by (repeat' (first | (with_reducible exact Below.refl _ _) | (with_reducible assumption) | (with_reducible refine Below.alloc ?_ ?_ _) | (with_reducible refine Below.drew ?_) | (with_reducible refine below_drewN ?_ _) | (with_reducible refine Below.setCell ?_ ?_ _) | (with_reducible refine chain ?_ (by assumption) ?_) | omega | (simp; done) | (simp; omega))))
  rintro ee w1 ⟨rfl, hb1⟩
  obtain ⟨hc1, hf1, _⟩ := bcell hb1; have hz1 := hb1.size; (try simp at hz1); (try have hx10 : w.heap.size < w1.heap.size := (by omega)); (try have hx11 : w.heap.size + 1 < w1.heap.size := (by omega)); (try have hx12 : w.heap.size + 1 + 1 < w1.heap.size := (by omega)); (try have hx13 : w.heap.size + 1 + 1 + 1 < w1.heap.size := (by omega))
  go_wp2_with (fail)
  refine bodyPost_ret (v := dt 0 0 0 0 0 false) (by first | (simp [results, Try.results23, go_sem, *]; done) | (simp (disch := (first | omega | (simp; done) | (simp; omega))) [results, Try.results23, go_sem, *]; done) | (simp only [results, Try.results23]; go_simp; done)) rfl ⟨rfl, ?_⟩
  (repeat' (first | (with_reducible exact Below.refl _ _) | (with_reducible assumption) | (with_reducible refine Below.alloc ?_ ?_ _) | (with_reducible refine Below.drew ?_) | (with_reducible refine below_drewN ?_ _) | (with_reducible refine Below.setCell ?_ ?_ _) | (with_reducible refine chain ?_ (by assumption) ?_) | omega | (simp; done) | (simp; omega)))

set_option maxRecDepth 100000 in
set_option maxHeartbeats 4000000 in
theorem tr_i_n {r c : Int} {g0 n cp : Nat} {xs : List D5} {w : World} (hA : Rd w (some ⟨g0, 0, none⟩) xs) (hn : xs.length = n) (hok : okM r c n xs = true) (hr : r ≠ c) :
    Calls Try.prog 23 #[mv r c (some ⟨g0, 0, none⟩) n cp] w fun ee w' => ee = .returned (dt 0 0 0 0 0 false) ∧ Below w.heap.size w w' := by
  have h1 : (r != c) = true := by simpa using hr
  have HA := hid hA
  have HN := hid hn
  have HO := hid hok
  clear hA hn hok
  go_enter Try.func23, Try.ntmps23
  go_wp2_with (fail)
  refine (vm_i_t (xs := xs) HO.out ?_ HN.out).mono ?_
  · exact HA.out.mono (by (repeat' (first | (with_reducible exact Below.refl _ _) | (with_reducible assumption) | (with_reducible refine Below.alloc ?_ ?_ _) | (with_reducible refine Below.drew ?_) | (with_reducible refine below_drewN ?_ _) | (with_reducible refine Below.setCell ?_ ?_ _) | (with_reducible refine chain ?_ (by assumption) ?_) | omega | (simp; done) | (simp; omega))))
  rintro ee w1 ⟨rfl, hb1⟩
  obtain ⟨hc1, hf1, _⟩ := bcell hb1; have hz1 := hb1.size; (try simp at hz1); (try have hx10 : w.heap.size < w1.heap.size := (by omega)); (try have hx11 : w.heap.size + 1 < w1.heap.size := (by omega)); (try have hx12 : w.heap.size + 1 + 1 < w1.heap.size := (by omega)); (try have hx13 : w.heap.size + 1 + 1 + 1 < w1.heap.size := (by omega))
  go_wp2_with (fail)
  refine bodyPost_ret (v := dt 0 0 0 0 0 false) (by first | (simp [results, Try.results23, go_sem, *]; done) | (simp (disch := (first | omega | (simp; done) | (simp; omega))) [results, Try.results23, go_sem, *]; done) | (simp only [results, Try.results23]; go_simp; done)) rfl ⟨rfl, ?_⟩
  (repeat' (first | (with_reducible exact Below.refl _ _) | (with_reducible assumption) | (with_reducible refine Below.alloc ?_ ?_ _) | (with_reducible refine Below.drew ?_) | (with_reducible refine below_drewN ?_ _) | (with_reducible refine Below.setCell ?_ ?_ _) | (with_reducible refine chain ?_ (by assumption) ?_) | omega | (simp; done) | (simp; omega)))

set_option maxRecDepth 100000 in
set_option maxHeartbeats 16000000 in
theorem tr_i_t {C : Nat} {g0 n cp : Nat} {xs : List D5} {w : World} (hA : Rd w (some ⟨g0, 0, none⟩) xs) (hn : xs.length = n) (hok : okM (C : Int) (C : Int) n xs = true) (hcp : n ≤ cp) (hcp2 : cp ≤ 1048576) :
    Calls Try.prog 23 #[mv (C : Int) (C : Int) (some ⟨g0, 0, none⟩) n cp] w fun ee w' => TR w w' ee (trF C xs C) := by
  obtain ⟨hnn, h1, h2, h3, h4, h5⟩ := okM_nat2 hok
  have HNN := hid hnn
  clear hnn
  have HA := hid hA
  have HN := hid hn
  have HO := hid hok
  clear hA hn hok
  go_enter Try.func23, Try.ntmps23
  go_wp2_with (fail)
  refine (vm_i_t (xs := xs) HO.out ?_ HN.out).mono ?_
  · exact HA.out.mono (by (repeat' (first | (with_reducible exact Below.refl _ _) | (with_reducible assumption) | (with_reducible refine Below.alloc ?_ ?_ _) | (with_reducible refine Below.drew ?_) | (with_reducible refine below_drewN ?_ _) | (with_reducible refine Below.setCell ?_ ?_ _) | (with_reducible refine chain ?_ (by assumption) ?_) | omega | (simp; done) | (simp; omega))))
  rintro ee w1 ⟨rfl, hb1⟩
  obtain ⟨hc1, hf1, _⟩ := bcell hb1; have hz1 := hb1.size; (try simp at hz1); (try have hx10 : w.heap.size < w1.heap.size := (by omega)); (try have hx11 : w.heap.size + 1 < w1.heap.size := (by omega)); (try have hx12 : w.heap.size + 1 + 1 < w1.heap.size := (by omega)); (try have hx13 : w.heap.size + 1 + 1 + 1 < w1.heap.size := (by omega))
  have Xa1 : Hid (Bx w1 (w.heap.size) 26 #[.int .i64 (C : Int), .int .i64 (C : Int), .slice (some ⟨g0, 0, none⟩) n cp]) := by show Bx _ _ _ _; (repeat' (first | (with_reducible assumption) | (refine Bx.new (by first | (with_reducible rfl) | (simp; done))) | (with_reducible refine Bx.alloc ?_ _) | (with_reducible refine Bx.drew ?_) | (with_reducible refine Bx.drewN ?_ _) | (with_reducible refine Bx.mono ?_ (by assumption)) | (with_reducible refine Bx.badly ?_ (by assumption) (by omega)) | (with_reducible refine Bx.far ?_ (by (try simp only [World.size_alloc, World.size_drew]); omega)) | (with_reducible refine Bx.set ?_ rfl) | (with_reducible refine Bx.grown ?_ (by assumption) (by assumption))))
  have Xz1 : Hid (Bx w1 (w.heap.size + 1) 37 #[.int .i64 0, .int .i64 0, .int .i64 0, .int .i64 0, .int .i64 0]) := by show Bx _ _ _ _; (repeat' (first | (with_reducible assumption) | (refine Bx.new (by first | (with_reducible rfl) | (simp; done))) | (with_reducible refine Bx.alloc ?_ _) | (with_reducible refine Bx.drew ?_) | (with_reducible refine Bx.drewN ?_ _) | (with_reducible refine Bx.mono ?_ (by assumption)) | (with_reducible refine Bx.badly ?_ (by assumption) (by omega)) | (with_reducible refine Bx.far ?_ (by (try simp only [World.size_alloc, World.size_drew]); omega)) | (with_reducible refine Bx.set ?_ rfl) | (with_reducible refine Bx.grown ?_ (by assumption) (by assumption))))
  have hw1 : Below w.heap.size w w1 := by (repeat' (first | (with_reducible exact Below.refl _ _) | (with_reducible assumption) | (with_reducible refine Below.alloc ?_ ?_ _) | (with_reducible refine Below.drew ?_) | (with_reducible refine below_drewN ?_ _) | (with_reducible refine Below.setCell ?_ ?_ _) | (with_reducible refine chain ?_ (by assumption) ?_) | omega | (simp; done) | (simp; omega)))
  go_wp2_with (fail)
  go_loopg [21] C (fun q s1 wr => ∃ (j : Nat) (s : D5), j + q = C ∧ s1 = .int .i64 (j : Int) ∧ Hid (Bx wr (w.heap.size) 26 #[.int .i64 (C : Int), .int .i64 (C : Int), .slice (some ⟨g0, 0, none⟩) n cp]) ∧ Hid (Bx wr (w.heap.size + 1) 37 #[.int .i64 0, .int .i64 0, .int .i64 0, .int .i64 0, .int .i64 0]) ∧ Hid (Bx wr (w1.heap.size) 37 #[.int .i64 s.a, .int .i64 s.b, .int .i64 s.c, .int .i64 s.d, .int .i64 s.e]) ∧ Hid (trF C xs j = (s, false)) ∧ Hid (s.ok = true) ∧ w1.heap.size + 1 ≤ wr.heap.size ∧ Below w.heap.size w wr)
  case atStart =>
    have R1 := Xa1.out
    have R2 := Xz1.out
    exact ⟨0, z5, by omega, rfl, (by show Bx _ _ _ _; (repeat' (first | (with_reducible assumption) | (with_reducible refine Bx.alloc ?_ _) | (with_reducible refine Bx.drew ?_) | (with_reducible refine Bx.drewN ?_ _) | (with_reducible refine Bx.mono ?_ (by assumption)) | (with_reducible refine Bx.badly ?_ (by assumption) (by omega)) | (with_reducible refine Bx.far ?_ (by (try simp only [World.size_alloc, World.size_drew]); omega)) | (with_reducible refine Bx.set ?_ rfl) | (with_reducible refine Bx.grown ?_ (by assumption) (by assumption))))), (by show Bx _ _ _ _; (repeat' (first | (with_reducible assumption) | (with_reducible refine Bx.alloc ?_ _) | (with_reducible refine Bx.drew ?_) | (with_reducible refine Bx.drewN ?_ _) | (with_reducible refine Bx.mono ?_ (by assumption)) | (with_reducible refine Bx.badly ?_ (by assumption) (by omega)) | (with_reducible refine Bx.far ?_ (by (try simp only [World.size_alloc, World.size_drew]); omega)) | (with_reducible refine Bx.set ?_ rfl) | (with_reducible refine Bx.grown ?_ (by assumption) (by assumption))))), (by show Bx _ _ _ _; (repeat' (first | (with_reducible assumption) | (refine Bx.new (by first | (with_reducible rfl) | (simp; done))) | (with_reducible refine Bx.alloc ?_ _) | (with_reducible refine Bx.drew ?_) | (with_reducible refine Bx.drewN ?_ _) | (with_reducible refine Bx.mono ?_ (by assumption)) | (with_reducible refine Bx.badly ?_ (by assumption) (by omega)) | (with_reducible refine Bx.far ?_ (by (try simp only [World.size_alloc, World.size_drew]); omega)) | (with_reducible refine Bx.set ?_ rfl) | (with_reducible refine Bx.grown ?_ (by assumption) (by assumption))))), rfl, z5_ok, by simp, by (repeat' (first | (with_reducible exact Below.refl _ _) | (with_reducible assumption) | (with_reducible refine Below.alloc ?_ ?_ _) | (with_reducible refine Below.drew ?_) | (with_reducible refine below_drewN ?_ _) | (with_reducible refine Below.setCell ?_ ?_ _) | (with_reducible refine chain ?_ (by assumption) ?_) | omega | (simp; done) | (simp; omega)))⟩
  case round =>
    obtain ⟨j, s, hj, rfl, Xa, Xz, Xd, HS, HK, hsz, hB⟩ := hrel
    clear Xa1 Xz1
    have ca0 := Xa.out.c 0 rfl
    have ca1 := Xa.out.c 1 rfl
    have ca2 := Xa.out.c 2 rfl
    have la := Xa.out.lt
    have cz0 := Xz.out.c 0 rfl
    have cz1 := Xz.out.c 1 rfl
    have cz2 := Xz.out.c 2 rfl
    have cz3 := Xz.out.c 3 rfl
    have cz4 := Xz.out.c 4 rfl
    have lz := Xz.out.lt
    have fz := Xz.out.f
    have cd0 := Xd.out.c 0 rfl
    have cd1 := Xd.out.c 1 rfl
    have cd2 := Xd.out.c 2 rfl
    have cd3 := Xd.out.c 3 rfl
    have cd4 := Xd.out.c 4 rfl
    have ld := Xd.out.lt
    have fd := Xd.out.f
    cases gk with
    | zero =>
      obtain rfl : j = C := by omega
      have hBq := hB.size
      go_wp2_with (fail)
      refine bodyPost_ret (v := dt s.a s.b s.c s.d s.e true) (by first | (simp [results, Try.results23, go_sem, *]; done) | (simp (disch := (first | omega | (simp; done) | (simp; omega))) [results, Try.results23, go_sem, *]; done) | (simp only [results, Try.results23]; go_simp; done)) rfl (TR.t HS.out ?_)
      (repeat' (first | (with_reducible exact Below.refl _ _) | (with_reducible assumption) | (with_reducible refine Below.alloc ?_ ?_ _) | (with_reducible refine Below.drew ?_) | (with_reducible refine below_drewN ?_ _) | (with_reducible refine Below.setCell ?_ ?_ _) | (with_reducible refine chain ?_ (by assumption) ?_) | omega | (simp; done) | (simp; omega)))
    | succ m =>
      have hlt : j < C := by omega
      have j1 : (j : Int) < (C : Int) := by omega
      obtain ⟨t, ht1, ht2, ht3, ht4⟩ := row_at HNN.out hlt
      have HT1 := hid ht1
      have HT2 := hid ht2
      have hq : t + j < n := by omega
      have hx := get_of (xs := xs) (q := t + j) (by rw [HN.out]; exact hq)
      obtain ⟨x, hxe⟩ : ∃ x, x = xs.getD (t + j) z5 := ⟨_, rfl⟩
      rw [← hxe] at hx
      have HX : Hid (xs.getD (j * C + j) z5 = x) := by show _ = x; rw [hxe, ht4]
      have HKx := hid (all_get (okM_iff.1 HO.out).2.2.2 hx)
      have hC := HA.out.cx hx
      have hgw := hC.lt
      obtain ⟨q0, q1, q2, q3, q4⟩ := hC.at_ (hB.block g0 hgw)
      simp only [Nat.add_mul] at q0 q1 q2 q3 q4
      have hBq := hB.size
      clear hC hx hxe ht1 ht2 ht4
      go_wp2_with (fail)
      cases hf : (addS false s x).2
      · have HF := hid hf
        clear hf
        go_cut [6, 7] (fun s6 s7 wx => CutG (∃ bb : Nat, s6 = .pointer (some ⟨bb, 0, none⟩) ∧ s7 = .bool true ∧ Hid (Bx wx bb 37 #[.int .i64 (addS false s x).1.a, .int .i64 (addS false s x).1.b, .int .i64 (addS false s x).1.c, .int .i64 (addS false s x).1.d, .int .i64 (addS false s x).1.e]) ∧ wr.heap.size ≤ bb) (Below wr.heap.size wr wx))
        case first =>
          have ycd0 : wr.drew.cell? ⟨w1.heap.size, 0, none⟩ = some (.int .i64 s.a) := cd0
          have ycd1 : wr.drew.cell? ⟨w1.heap.size, 1, none⟩ = some (.int .i64 s.b) := cd1
          have ycd2 : wr.drew.cell? ⟨w1.heap.size, 2, none⟩ = some (.int .i64 s.c) := cd2
          have ycd3 : wr.drew.cell? ⟨w1.heap.size, 3, none⟩ = some (.int .i64 s.d) := cd3
          have ycd4 : wr.drew.cell? ⟨w1.heap.size, 4, none⟩ = some (.int .i64 s.e) := cd4
          have yca0 : wr.drew.cell? ⟨w.heap.size, 0, none⟩ = some (.int .i64 (C : Int)) := ca0
          have yca1 : wr.drew.cell? ⟨w.heap.size, 1, none⟩ = some (.int .i64 (C : Int)) := ca1
          have yca2 : wr.drew.cell? ⟨w.heap.size, 2, none⟩ = some (.slice (some ⟨g0, 0, none⟩) n cp) := ca2
          have yq0 : wr.drew.cell? ⟨g0, t * 5 + j * 5, none⟩ = some (.int .i64 x.a) := q0
          have yq1 : wr.drew.cell? ⟨g0, t * 5 + j * 5 + 1, none⟩ = some (.int .i64 x.b) := q1
          have yq2 : wr.drew.cell? ⟨g0, t * 5 + j * 5 + 2, none⟩ = some (.int .i64 x.c) := q2
          have yq3 : wr.drew.cell? ⟨g0, t * 5 + j * 5 + 3, none⟩ = some (.int .i64 x.d) := q3
          have yq4 : wr.drew.cell? ⟨g0, t * 5 + j * 5 + 4, none⟩ = some (.int .i64 x.e) := q4
          refine wp_region_x (fun w' => w'.cell? ⟨w1.heap.size, 0, none⟩ = some (.int .i64 s.a) ∧ w'.cell? ⟨w1.heap.size, 1, none⟩ = some (.int .i64 s.b) ∧ w'.cell? ⟨w1.heap.size, 2, none⟩ = some (.int .i64 s.c) ∧ w'.cell? ⟨w1.heap.size, 3, none⟩ = some (.int .i64 s.d) ∧ w'.cell? ⟨w1.heap.size, 4, none⟩ = some (.int .i64 s.e) ∧ w'.cell? ⟨w.heap.size, 0, none⟩ = some (.int .i64 (C : Int)) ∧ w'.cell? ⟨w.heap.size, 1, none⟩ = some (.int .i64 (C : Int)) ∧ w'.cell? ⟨w.heap.size, 2, none⟩ = some (.slice (some ⟨g0, 0, none⟩) n cp) ∧ w'.cell? ⟨g0, t * 5 + j * 5, none⟩ = some (.int .i64 x.a) ∧ w'.cell? ⟨g0, t * 5 + j * 5 + 1, none⟩ = some (.int .i64 x.b) ∧ w'.cell? ⟨g0, t * 5 + j * 5 + 2, none⟩ = some (.int .i64 x.c) ∧ w'.cell? ⟨g0, t * 5 + j * 5 + 3, none⟩ = some (.int .i64 x.d) ∧ w'.cell? ⟨g0, t * 5 + j * 5 + 4, none⟩ = some (.int .i64 x.e)) 1000 (by kernel_rfl) ⟨ycd0, ycd1, ycd2, ycd3, ycd4, yca0, yca1, yca2, yq0, yq1, yq2, yq3, yq4⟩ (fun hS0 => ?_)
          refine wpAnyX_take (i := 0) (oi := _) (v := ?_) rfl (by kernel_rfl) (by kernel_rfl) (by kernel_rfl) (by kernel_rfl) (fun _ _ _ h => h) (Or.inl ⟨by rfl, ?_⟩) hS0 ?_
          rotate_left 1
          · (intro w hSw; (try dsimp only at hSw); go_simp; (try with_reducible rfl))
          try simp only [Act.put, List.setIfInBounds_toArray, List.set_cons_zero, List.set_cons_succ]
          refine wpAnyX_take (i := 1) (oi := _) (v := ?_) rfl (by kernel_rfl) (by kernel_rfl) (by kernel_rfl) (by kernel_rfl) (fun _ _ _ h => h) (Or.inl ⟨by rfl, ?_⟩) hS0 ?_
          rotate_left 1
          · (intro w hSw; (try dsimp only at hSw); go_simp; (try with_reducible rfl))
          try simp only [Act.put, List.setIfInBounds_toArray, List.set_cons_zero, List.set_cons_succ]
          refine wpAnyX_take (i := 2) (oi := _) (v := ?_) rfl (by kernel_rfl) (by kernel_rfl) (by kernel_rfl) (by kernel_rfl) (fun _ _ _ h => h) (Or.inl ⟨by rfl, ?_⟩) hS0 ?_
          rotate_left 1
          · (intro w hSw; (try dsimp only at hSw); go_simp; (try with_reducible rfl))
          try simp only [Act.put, List.setIfInBounds_toArray, List.set_cons_zero, List.set_cons_succ]
          refine wpAnyX_take (i := 4) (oi := _) (v := ?_) rfl (by kernel_rfl) (by kernel_rfl) (by kernel_rfl) (by kernel_rfl) (fun _ _ _ h => h) (Or.inl ⟨by rfl, ?_⟩) hS0 ?_
          rotate_left 1
          · (intro w hSw; (try dsimp only at hSw); go_simp; (try with_reducible rfl))
          try simp only [Act.put, List.setIfInBounds_toArray, List.set_cons_zero, List.set_cons_succ]
          refine wpAnyX_two (i := 3) (j := 11) (oi := _) (oj := _) rfl rfl (by kernel_rfl) (fun K hK => ?_) (fun K hK => ?_)
          · go_simp
            refine (rw_i (s := t) HT1.out HT2.out (by omega) hcp2 h1 (by omega)).mono ?_
            rintro ee w8 ⟨rfl, hb8⟩
            have hz8 := hb8.size
            (try simp only [World.size_drew, World.size_alloc] at hz8)
            refine hK.out _ _ (fun _ => ?_) (fun hS1 => ?_)
            · exact ⟨kc hb8 (hS0.1), kc hb8 (hS0.2.1), kc hb8 (hS0.2.2.1), kc hb8 (hS0.2.2.2.1), kc hb8 (hS0.2.2.2.2.1), kc hb8 (hS0.2.2.2.2.2.1), kc hb8 (hS0.2.2.2.2.2.2.1), kc hb8 (hS0.2.2.2.2.2.2.2.1), kc hb8 (hS0.2.2.2.2.2.2.2.2.1), kc hb8 (hS0.2.2.2.2.2.2.2.2.2.1), kc hb8 (hS0.2.2.2.2.2.2.2.2.2.2.1), kc hb8 (hS0.2.2.2.2.2.2.2.2.2.2.2.1), kc hb8 (hS0.2.2.2.2.2.2.2.2.2.2.2.2)⟩
            clear hK K
            have hS1 := hS1 (by decide)
            try simp only [Act.put, List.setIfInBounds_toArray, List.set_cons_zero, List.set_cons_succ]
            refine wpAnyX_take (i := 5) (oi := _) (v := ?_) rfl (by kernel_rfl) (by kernel_rfl) (by kernel_rfl) (by kernel_rfl) (fun _ _ _ h => h) (Or.inl ⟨by rfl, ?_⟩) hS1 ?_
            rotate_left 1
            · (intro w hSw; (try dsimp only at hSw); go_simp; (try with_reducible rfl))
            try simp only [Act.put, List.setIfInBounds_toArray, List.set_cons_zero, List.set_cons_succ]
            refine wpAnyX_take (i := 6) (oi := _) (v := ?_) rfl (by kernel_rfl) (by kernel_rfl) (by kernel_rfl) (by kernel_rfl) (fun _ _ _ h => h) (Or.inl ⟨by rfl, ?_⟩) hS1 ?_
            rotate_left 1
            · (intro w hSw; (try dsimp only at hSw); go_simp; (try with_reducible rfl))
            try simp only [Act.put, List.setIfInBounds_toArray, List.set_cons_zero, List.set_cons_succ]
            refine wpAnyX_two (i := 7) (j := 11) (oi := _) (oj := _) rfl rfl (by kernel_rfl) (fun K hK => ?_) (fun K hK => ?_)
            · go_simp
              refine (iadd_t (x := s) (y := x) HK.out HKx.out HF.out _).mono ?_
              rintro ee w9 ⟨rfl, hb9⟩
              have hz9 := hb9.size
              (try simp only [World.size_drew, World.size_alloc] at hz9)
              refine hK.out _ _ (fun _ => ?_) (fun hS2 => ?_)
              · exact ⟨kc hb9 (hS1.1), kc hb9 (hS1.2.1), kc hb9 (hS1.2.2.1), kc hb9 (hS1.2.2.2.1), kc hb9 (hS1.2.2.2.2.1), kc hb9 (hS1.2.2.2.2.2.1), kc hb9 (hS1.2.2.2.2.2.2.1), kc hb9 (hS1.2.2.2.2.2.2.2.1), kc hb9 (hS1.2.2.2.2.2.2.2.2.1), kc hb9 (hS1.2.2.2.2.2.2.2.2.2.1), kc hb9 (hS1.2.2.2.2.2.2.2.2.2.2.1), kc hb9 (hS1.2.2.2.2.2.2.2.2.2.2.2.1), kc hb9 (hS1.2.2.2.2.2.2.2.2.2.2.2.2)⟩
              clear hK K
              have hS2 := hS2 (by decide)
              try simp only [Act.put, List.setIfInBounds_toArray, List.set_cons_zero, List.set_cons_succ]
              refine wpAnyX_take (i := 8) (oi := _) (v := ?_) rfl (by kernel_rfl) (by kernel_rfl) (by kernel_rfl) (by kernel_rfl) (fun _ _ _ h => h) (Or.inl ⟨by rfl, ?_⟩) hS2 ?_
              rotate_left 1
              · (intro w hSw; (try dsimp only at hSw); go_simp; (try with_reducible rfl))
              try simp only [Act.put, List.setIfInBounds_toArray, List.set_cons_zero, List.set_cons_succ]
              refine wpAnyX_take (i := 9) (oi := _) (v := ?_) rfl (by kernel_rfl) (by kernel_rfl) (by kernel_rfl) (by kernel_rfl) (fun _ _ _ h => h) (Or.inl ⟨by rfl, ?_⟩) hS2 ?_
              rotate_left 1
              · (intro w hSw; (try dsimp only at hSw); go_simp; (try with_reducible rfl))
              try simp only [Act.put, List.setIfInBounds_toArray, List.set_cons_zero, List.set_cons_succ]
              refine wpAnyX_take (i := 10) (oi := _) (v := ?_) rfl (by kernel_rfl) (by kernel_rfl) (by kernel_rfl) (by kernel_rfl) (fun _ _ _ h => h) (Or.inl ⟨by rfl, ?_⟩) hS2 ?_
              rotate_left 1
              · (intro w hSw; (try dsimp only at hSw); go_simp; (try with_reducible rfl))
              try simp only [Act.put, List.setIfInBounds_toArray, List.set_cons_zero, List.set_cons_succ]
              refine wpAnyX_one (i := 11) (o := _) rfl (by kernel_rfl) (fun K hK => ?_)
              go_simp
              refine hK.out _ _ (fun _ => ?_) (fun hS3 => ?_)
              · first | exact ⟨kal (hS2.1), kal (hS2.2.1), kal (hS2.2.2.1), kal (hS2.2.2.2.1), kal (hS2.2.2.2.2.1), kal (hS2.2.2.2.2.2.1), kal (hS2.2.2.2.2.2.2.1), kal (hS2.2.2.2.2.2.2.2.1), kal (hS2.2.2.2.2.2.2.2.2.1), kal (hS2.2.2.2.2.2.2.2.2.2.1), kal (hS2.2.2.2.2.2.2.2.2.2.2.1), kal (hS2.2.2.2.2.2.2.2.2.2.2.2.1), kal (hS2.2.2.2.2.2.2.2.2.2.2.2.2)⟩ | exact ⟨kald (hS2.1), kald (hS2.2.1), kald (hS2.2.2.1), kald (hS2.2.2.2.1), kald (hS2.2.2.2.2.1), kald (hS2.2.2.2.2.2.1), kald (hS2.2.2.2.2.2.2.1), kald (hS2.2.2.2.2.2.2.2.1), kald (hS2.2.2.2.2.2.2.2.2.1), kald (hS2.2.2.2.2.2.2.2.2.2.1), kald (hS2.2.2.2.2.2.2.2.2.2.2.1), kald (hS2.2.2.2.2.2.2.2.2.2.2.2.1), kald (hS2.2.2.2.2.2.2.2.2.2.2.2.2)⟩
              clear hK K
              have hS3 := hS3 (by decide)
              try simp only [Act.put, List.setIfInBounds_toArray, List.set_cons_zero, List.set_cons_succ]
              refine wpAnyX_one (i := 12) (o := _) rfl (by kernel_rfl) (fun K hK => ?_)
              go_simp
              refine hK.out _ _ (fun _ => ?_) (fun hS4 => ?_)
              · first | exact ⟨kre (by omega) (hS3.1), kre (by omega) (hS3.2.1), kre (by omega) (hS3.2.2.1), kre (by omega) (hS3.2.2.2.1), kre (by omega) (hS3.2.2.2.2.1), kre (by omega) (hS3.2.2.2.2.2.1), kre (by omega) (hS3.2.2.2.2.2.2.1), kre (by omega) (hS3.2.2.2.2.2.2.2.1), kre (by omega) (hS3.2.2.2.2.2.2.2.2.1), kre (by omega) (hS3.2.2.2.2.2.2.2.2.2.1), kre (by omega) (hS3.2.2.2.2.2.2.2.2.2.2.1), kre (by omega) (hS3.2.2.2.2.2.2.2.2.2.2.2.1), kre (by omega) (hS3.2.2.2.2.2.2.2.2.2.2.2.2)⟩ | exact ⟨kal (hS3.1), kal (hS3.2.1), kal (hS3.2.2.1), kal (hS3.2.2.2.1), kal (hS3.2.2.2.2.1), kal (hS3.2.2.2.2.2.1), kal (hS3.2.2.2.2.2.2.1), kal (hS3.2.2.2.2.2.2.2.1), kal (hS3.2.2.2.2.2.2.2.2.1), kal (hS3.2.2.2.2.2.2.2.2.2.1), kal (hS3.2.2.2.2.2.2.2.2.2.2.1), kal (hS3.2.2.2.2.2.2.2.2.2.2.2.1), kal (hS3.2.2.2.2.2.2.2.2.2.2.2.2)⟩
              clear hK K
              have hS4 := hS4 (by decide)
              try simp only [Act.put, List.setIfInBounds_toArray, List.set_cons_zero, List.set_cons_succ]
              refine wpAnyX_take (i := 13) (oi := _) (v := ?_) rfl (by kernel_rfl) (by kernel_rfl) (by kernel_rfl) (by kernel_rfl) (fun _ _ _ h => h) (Or.inl ⟨by rfl, ?_⟩) hS4 ?_
              rotate_left 1
              · (intro w hSw; (try dsimp only at hSw); go_simp; (try with_reducible rfl))
              change wpAnyX _ _ _ _ _ _ _ _ (Act.put _ (some 7) _) _
              try simp only [Act.put, List.setIfInBounds_toArray, List.set_cons_zero, List.set_cons_succ]
              refine wpAnyX_done (by kernel_rfl) ?_ _
              go_wp2_with fail
              go_meet
              refine ⟨⟨_, rfl, rfl, ?_, ?_⟩, ?_⟩
              · show Bx _ _ _ _
                first | exact Bx.new rfl | exact ((((QB.set rfl).set rfl).set rfl).set rfl).set rfl
              · first | exact Nat.le_refl _ | omega
              · (repeat' (first | (with_reducible exact Below.refl _ _) | (with_reducible assumption) | (with_reducible refine Below.alloc ?_ ?_ _) | (with_reducible refine Below.drew ?_) | (with_reducible refine below_drewN ?_ _) | (with_reducible refine Below.setCell ?_ ?_ _) | (with_reducible refine chain ?_ (by assumption) ?_) | omega | (simp; done) | (simp; omega)))
            · go_simp
              refine hK.out _ _ (fun _ => ?_) (fun hS2 => ?_)
              · first | exact ⟨kal (hS1.1), kal (hS1.2.1), kal (hS1.2.2.1), kal (hS1.2.2.2.1), kal (hS1.2.2.2.2.1), kal (hS1.2.2.2.2.2.1), kal (hS1.2.2.2.2.2.2.1), kal (hS1.2.2.2.2.2.2.2.1), kal (hS1.2.2.2.2.2.2.2.2.1), kal (hS1.2.2.2.2.2.2.2.2.2.1), kal (hS1.2.2.2.2.2.2.2.2.2.2.1), kal (hS1.2.2.2.2.2.2.2.2.2.2.2.1), kal (hS1.2.2.2.2.2.2.2.2.2.2.2.2)⟩ | exact ⟨kald (hS1.1), kald (hS1.2.1), kald (hS1.2.2.1), kald (hS1.2.2.2.1), kald (hS1.2.2.2.2.1), kald (hS1.2.2.2.2.2.1), kald (hS1.2.2.2.2.2.2.1), kald (hS1.2.2.2.2.2.2.2.1), kald (hS1.2.2.2.2.2.2.2.2.1), kald (hS1.2.2.2.2.2.2.2.2.2.1), kald (hS1.2.2.2.2.2.2.2.2.2.2.1), kald (hS1.2.2.2.2.2.2.2.2.2.2.2.1), kald (hS1.2.2.2.2.2.2.2.2.2.2.2.2)⟩
              clear hK K
              have hS2 := hS2 (by decide)
              try simp only [Act.put, List.setIfInBounds_toArray, List.set_cons_zero, List.set_cons_succ]
              refine wpAnyX_one (i := 7) (o := _) rfl (by kernel_rfl) (fun K hK => ?_)
              go_simp
              refine (iadd_t (x := s) (y := x) HK.out HKx.out HF.out _).mono ?_
              rintro ee w9 ⟨rfl, hb9⟩
              have hz9 := hb9.size
              (try simp only [World.size_drew, World.size_alloc] at hz9)
              refine hK.out _ _ (fun _ => ?_) (fun hS3 => ?_)
              · exact ⟨kc hb9 (hS2.1), kc hb9 (hS2.2.1), kc hb9 (hS2.2.2.1), kc hb9 (hS2.2.2.2.1), kc hb9 (hS2.2.2.2.2.1), kc hb9 (hS2.2.2.2.2.2.1), kc hb9 (hS2.2.2.2.2.2.2.1), kc hb9 (hS2.2.2.2.2.2.2.2.1), kc hb9 (hS2.2.2.2.2.2.2.2.2.1), kc hb9 (hS2.2.2.2.2.2.2.2.2.2.1), kc hb9 (hS2.2.2.2.2.2.2.2.2.2.2.1), kc hb9 (hS2.2.2.2.2.2.2.2.2.2.2.2.1), kc hb9 (hS2.2.2.2.2.2.2.2.2.2.2.2.2)⟩
              clear hK K
              have hS3 := hS3 (by decide)
              try simp only [Act.put, List.setIfInBounds_toArray, List.set_cons_zero, List.set_cons_succ]
              refine wpAnyX_take (i := 8) (oi := _) (v := ?_) rfl (by kernel_rfl) (by kernel_rfl) (by kernel_rfl) (by kernel_rfl) (fun _ _ _ h => h) (Or.inl ⟨by rfl, ?_⟩) hS3 ?_
              rotate_left 1
              · (intro w hSw; (try dsimp only at hSw); go_simp; (try with_reducible rfl))
              try simp only [Act.put, List.setIfInBounds_toArray, List.set_cons_zero, List.set_cons_succ]
              refine wpAnyX_take (i := 9) (oi := _) (v := ?_) rfl (by kernel_rfl) (by kernel_rfl) (by kernel_rfl) (by kernel_rfl) (fun _ _ _ h => h) (Or.inl ⟨by rfl, ?_⟩) hS3 ?_
              rotate_left 1
              · (intro w hSw; (try dsimp only at hSw); go_simp; (try with_reducible rfl))
              try simp only [Act.put, List.setIfInBounds_toArray, List.set_cons_zero, List.set_cons_succ]
              refine wpAnyX_take (i := 10) (oi := _) (v := ?_) rfl (by kernel_rfl) (by kernel_rfl) (by kernel_rfl) (by kernel_rfl) (fun _ _ _ h => h) (Or.inl ⟨by rfl, ?_⟩) hS3 ?_
              rotate_left 1
              · (intro w hSw; (try dsimp only at hSw); go_simp; (try with_reducible rfl))
              try simp only [Act.put, List.setIfInBounds_toArray, List.set_cons_zero, List.set_cons_succ]
              refine wpAnyX_one (i := 12) (o := _) rfl (by kernel_rfl) (fun K hK => ?_)
              have QB : Bx w9 w8.heap.size 37 #[.int .i64 0, .int .i64 0, .int .i64 0, .int .i64 0, .int .i64 0] := by
                have QB0 : Bx (w8.alloc (.cells #[.int .i64 0, .int .i64 0, .int .i64 0, .int .i64 0, .int .i64 0] 37)) w8.heap.size 37 #[.int .i64 0, .int .i64 0, .int .i64 0, .int .i64 0, .int .i64 0] := Bx.new rfl
                exact ((hb9.block _ (by (try simp only [World.size_drew, World.size_alloc]); omega)).trans QB0)
              have n0 := QB.c 0 rfl
              have n1 := QB.c 1 rfl
              have n2 := QB.c 2 rfl
              have n3 := QB.c 3 rfl
              have n4 := QB.c 4 rfl
              have nf := QB.f
              go_simp
              refine hK.out _ _ (fun _ => ?_) (fun hS4 => ?_)
              · exact ⟨kst5 (by omega) (hS3.1), kst5 (by omega) (hS3.2.1), kst5 (by omega) (hS3.2.2.1), kst5 (by omega) (hS3.2.2.2.1), kst5 (by omega) (hS3.2.2.2.2.1), kst5 (by omega) (hS3.2.2.2.2.2.1), kst5 (by omega) (hS3.2.2.2.2.2.2.1), kst5 (by omega) (hS3.2.2.2.2.2.2.2.1), kst5 (by omega) (hS3.2.2.2.2.2.2.2.2.1), kst5 (by omega) (hS3.2.2.2.2.2.2.2.2.2.1), kst5 (by omega) (hS3.2.2.2.2.2.2.2.2.2.2.1), kst5 (by omega) (hS3.2.2.2.2.2.2.2.2.2.2.2.1), kst5 (by omega) (hS3.2.2.2.2.2.2.2.2.2.2.2.2)⟩
              clear hK K
              have hS4 := hS4 (by decide)
              try simp only [Act.put, List.setIfInBounds_toArray, List.set_cons_zero, List.set_cons_succ]
              refine wpAnyX_take (i := 13) (oi := _) (v := ?_) rfl (by kernel_rfl) (by kernel_rfl) (by kernel_rfl) (by kernel_rfl) (fun _ _ _ h => h) (Or.inl ⟨by rfl, ?_⟩) hS4 ?_
              rotate_left 1
              · (intro w hSw; (try dsimp only at hSw); go_simp; (try with_reducible rfl))
              change wpAnyX _ _ _ _ _ _ _ _ (Act.put _ (some 7) _) _
              try simp only [Act.put, List.setIfInBounds_toArray, List.set_cons_zero, List.set_cons_succ]
              refine wpAnyX_done (by kernel_rfl) ?_ _
              go_wp2_with fail
              go_meet
              refine ⟨⟨_, rfl, rfl, ?_, ?_⟩, ?_⟩
              · show Bx _ _ _ _
                first | exact Bx.new rfl | exact ((((QB.set rfl).set rfl).set rfl).set rfl).set rfl
              · first | exact Nat.le_refl _ | omega
              · (repeat' (first | (with_reducible exact Below.refl _ _) | (with_reducible assumption) | (with_reducible refine Below.alloc ?_ ?_ _) | (with_reducible refine Below.drew ?_) | (with_reducible refine below_drewN ?_ _) | (with_reducible refine Below.setCell ?_ ?_ _) | (with_reducible refine chain ?_ (by assumption) ?_) | omega | (simp; done) | (simp; omega)))
          · go_simp
            refine hK.out _ _ (fun _ => ?_) (fun hS1 => ?_)
            · first | exact ⟨kal (hS0.1), kal (hS0.2.1), kal (hS0.2.2.1), kal (hS0.2.2.2.1), kal (hS0.2.2.2.2.1), kal (hS0.2.2.2.2.2.1), kal (hS0.2.2.2.2.2.2.1), kal (hS0.2.2.2.2.2.2.2.1), kal (hS0.2.2.2.2.2.2.2.2.1), kal (hS0.2.2.2.2.2.2.2.2.2.1), kal (hS0.2.2.2.2.2.2.2.2.2.2.1), kal (hS0.2.2.2.2.2.2.2.2.2.2.2.1), kal (hS0.2.2.2.2.2.2.2.2.2.2.2.2)⟩ | exact ⟨kald (hS0.1), kald (hS0.2.1), kald (hS0.2.2.1), kald (hS0.2.2.2.1), kald (hS0.2.2.2.2.1), kald (hS0.2.2.2.2.2.1), kald (hS0.2.2.2.2.2.2.1), kald (hS0.2.2.2.2.2.2.2.1), kald (hS0.2.2.2.2.2.2.2.2.1), kald (hS0.2.2.2.2.2.2.2.2.2.1), kald (hS0.2.2.2.2.2.2.2.2.2.2.1), kald (hS0.2.2.2.2.2.2.2.2.2.2.2.1), kald (hS0.2.2.2.2.2.2.2.2.2.2.2.2)⟩
            clear hK K
            have hS1 := hS1 (by decide)
            try simp only [Act.put, List.setIfInBounds_toArray, List.set_cons_zero, List.set_cons_succ]
            refine wpAnyX_one (i := 3) (o := _) rfl (by kernel_rfl) (fun K hK => ?_)
            go_simp
            refine (rw_i (s := t) HT1.out HT2.out (by omega) hcp2 h1 (by omega)).mono ?_
            rintro ee w8 ⟨rfl, hb8⟩
            have hz8 := hb8.size
            (try simp only [World.size_drew, World.size_alloc] at hz8)
            refine hK.out _ _ (fun _ => ?_) (fun hS2 => ?_)
            · exact ⟨kc hb8 (hS1.1), kc hb8 (hS1.2.1), kc hb8 (hS1.2.2.1), kc hb8 (hS1.2.2.2.1), kc hb8 (hS1.2.2.2.2.1), kc hb8 (hS1.2.2.2.2.2.1), kc hb8 (hS1.2.2.2.2.2.2.1), kc hb8 (hS1.2.2.2.2.2.2.2.1), kc hb8 (hS1.2.2.2.2.2.2.2.2.1), kc hb8 (hS1.2.2.2.2.2.2.2.2.2.1), kc hb8 (hS1.2.2.2.2.2.2.2.2.2.2.1), kc hb8 (hS1.2.2.2.2.2.2.2.2.2.2.2.1), kc hb8 (hS1.2.2.2.2.2.2.2.2.2.2.2.2)⟩
            clear hK K
            have hS2 := hS2 (by decide)
            try simp only [Act.put, List.setIfInBounds_toArray, List.set_cons_zero, List.set_cons_succ]
            refine wpAnyX_take (i := 5) (oi := _) (v := ?_) rfl (by kernel_rfl) (by kernel_rfl) (by kernel_rfl) (by kernel_rfl) (fun _ _ _ h => h) (Or.inl ⟨by rfl, ?_⟩) hS2 ?_
            rotate_left 1
            · (intro w hSw; (try dsimp only at hSw); go_simp; (try with_reducible rfl))
            try simp only [Act.put, List.setIfInBounds_toArray, List.set_cons_zero, List.set_cons_succ]
            refine wpAnyX_take (i := 6) (oi := _) (v := ?_) rfl (by kernel_rfl) (by kernel_rfl) (by kernel_rfl) (by kernel_rfl) (fun _ _ _ h => h) (Or.inl ⟨by rfl, ?_⟩) hS2 ?_
            rotate_left 1
            · (intro w hSw; (try dsimp only at hSw); go_simp; (try with_reducible rfl))
            try simp only [Act.put, List.setIfInBounds_toArray, List.set_cons_zero, List.set_cons_succ]
            refine wpAnyX_one (i := 7) (o := _) rfl (by kernel_rfl) (fun K hK => ?_)
            go_simp
            refine (iadd_t (x := s) (y := x) HK.out HKx.out HF.out _).mono ?_
            rintro ee w9 ⟨rfl, hb9⟩
            have hz9 := hb9.size
            (try simp only [World.size_drew, World.size_alloc] at hz9)
            refine hK.out _ _ (fun _ => ?_) (fun hS3 => ?_)
            · exact ⟨kc hb9 (hS2.1), kc hb9 (hS2.2.1), kc hb9 (hS2.2.2.1), kc hb9 (hS2.2.2.2.1), kc hb9 (hS2.2.2.2.2.1), kc hb9 (hS2.2.2.2.2.2.1), kc hb9 (hS2.2.2.2.2.2.2.1), kc hb9 (hS2.2.2.2.2.2.2.2.1), kc hb9 (hS2.2.2.2.2.2.2.2.2.1), kc hb9 (hS2.2.2.2.2.2.2.2.2.2.1), kc hb9 (hS2.2.2.2.2.2.2.2.2.2.2.1), kc hb9 (hS2.2.2.2.2.2.2.2.2.2.2.2.1), kc hb9 (hS2.2.2.2.2.2.2.2.2.2.2.2.2)⟩
            clear hK K
            have hS3 := hS3 (by decide)
            try simp only [Act.put, List.setIfInBounds_toArray, List.set_cons_zero, List.set_cons_succ]
            refine wpAnyX_take (i := 8) (oi := _) (v := ?_) rfl (by kernel_rfl) (by kernel_rfl) (by kernel_rfl) (by kernel_rfl) (fun _ _ _ h => h) (Or.inl ⟨by rfl, ?_⟩) hS3 ?_
            rotate_left 1
            · (intro w hSw; (try dsimp only at hSw); go_simp; (try with_reducible rfl))
            try simp only [Act.put, List.setIfInBounds_toArray, List.set_cons_zero, List.set_cons_succ]
            refine wpAnyX_take (i := 9) (oi := _) (v := ?_) rfl (by kernel_rfl) (by kernel_rfl) (by kernel_rfl) (by kernel_rfl) (fun _ _ _ h => h) (Or.inl ⟨by rfl, ?_⟩) hS3 ?_
            rotate_left 1
            · (intro w hSw; (try dsimp only at hSw); go_simp; (try with_reducible rfl))
            try simp only [Act.put, List.setIfInBounds_toArray, List.set_cons_zero, List.set_cons_succ]
            refine wpAnyX_take (i := 10) (oi := _) (v := ?_) rfl (by kernel_rfl) (by kernel_rfl) (by kernel_rfl) (by kernel_rfl) (fun _ _ _ h => h) (Or.inl ⟨by rfl, ?_⟩) hS3 ?_
            rotate_left 1
            · (intro w hSw; (try dsimp only at hSw); go_simp; (try with_reducible rfl))
            try simp only [Act.put, List.setIfInBounds_toArray, List.set_cons_zero, List.set_cons_succ]
            refine wpAnyX_one (i := 12) (o := _) rfl (by kernel_rfl) (fun K hK => ?_)
            have QB : Bx w9 wr.heap.size 37 #[.int .i64 0, .int .i64 0, .int .i64 0, .int .i64 0, .int .i64 0] := by
              have QB0 : Bx (wr.alloc (.cells #[.int .i64 0, .int .i64 0, .int .i64 0, .int .i64 0, .int .i64 0] 37)) wr.heap.size 37 #[.int .i64 0, .int .i64 0, .int .i64 0, .int .i64 0, .int .i64 0] := Bx.new rfl
              exact ((hb9.block _ (by (try simp only [World.size_drew, World.size_alloc]); omega)).trans ((hb8.block _ (by (try simp only [World.size_drew, World.size_alloc]); omega)).trans QB0))
            have n0 := QB.c 0 rfl
            have n1 := QB.c 1 rfl
            have n2 := QB.c 2 rfl
            have n3 := QB.c 3 rfl
            have n4 := QB.c 4 rfl
            have nf := QB.f
            go_simp
            refine hK.out _ _ (fun _ => ?_) (fun hS4 => ?_)
            · exact ⟨kst5 (by omega) (hS3.1), kst5 (by omega) (hS3.2.1), kst5 (by omega) (hS3.2.2.1), kst5 (by omega) (hS3.2.2.2.1), kst5 (by omega) (hS3.2.2.2.2.1), kst5 (by omega) (hS3.2.2.2.2.2.1), kst5 (by omega) (hS3.2.2.2.2.2.2.1), kst5 (by omega) (hS3.2.2.2.2.2.2.2.1), kst5 (by omega) (hS3.2.2.2.2.2.2.2.2.1), kst5 (by omega) (hS3.2.2.2.2.2.2.2.2.2.1), kst5 (by omega) (hS3.2.2.2.2.2.2.2.2.2.2.1), kst5 (by omega) (hS3.2.2.2.2.2.2.2.2.2.2.2.1), kst5 (by omega) (hS3.2.2.2.2.2.2.2.2.2.2.2.2)⟩
            clear hK K
            have hS4 := hS4 (by decide)
            try simp only [Act.put, List.setIfInBounds_toArray, List.set_cons_zero, List.set_cons_succ]
            refine wpAnyX_take (i := 13) (oi := _) (v := ?_) rfl (by kernel_rfl) (by kernel_rfl) (by kernel_rfl) (by kernel_rfl) (fun _ _ _ h => h) (Or.inl ⟨by rfl, ?_⟩) hS4 ?_
            rotate_left 1
            · (intro w hSw; (try dsimp only at hSw); go_simp; (try with_reducible rfl))
            change wpAnyX _ _ _ _ _ _ _ _ (Act.put _ (some 7) _) _
            try simp only [Act.put, List.setIfInBounds_toArray, List.set_cons_zero, List.set_cons_succ]
            refine wpAnyX_done (by kernel_rfl) ?_ _
            go_wp2_with fail
            go_meet
            refine ⟨⟨_, rfl, rfl, ?_, ?_⟩, ?_⟩
            · show Bx _ _ _ _
              first | exact Bx.new rfl | exact ((((QB.set rfl).set rfl).set rfl).set rfl).set rfl
            · first | exact Nat.le_refl _ | omega
            · (repeat' (first | (with_reducible exact Below.refl _ _) | (with_reducible assumption) | (with_reducible refine Below.alloc ?_ ?_ _) | (with_reducible refine Below.drew ?_) | (with_reducible refine below_drewN ?_ _) | (with_reducible refine Below.setCell ?_ ?_ _) | (with_reducible refine chain ?_ (by assumption) ?_) | omega | (simp; done) | (simp; omega)))
        case rest =>
          obtain ⟨w9, rfl⟩ : ∃ w9, w9 = wc := ⟨_, rfl⟩
          obtain ⟨⟨bb, rfl, rfl, XS, hbb⟩, hb9⟩ := hcut
          have hz9 := hb9.size
          have lbb := XS.out.lt
          have e0 := XS.out.c 0 rfl
          have e1 := XS.out.c 1 rfl
          have e2 := XS.out.c 2 rfl
          have e3 := XS.out.c 3 rfl
          have e4 := XS.out.c 4 rfl
          have hB9 := hid (chain hB hb9 hBq)
          have Yd := Xd.out.mono hb9
          have dd0 := Yd.c 0 rfl
          have dd1 := Yd.c 1 rfl
          have dd2 := Yd.c 2 rfl
          have dd3 := Yd.c 3 rfl
          have dd4 := Yd.c 4 rfl
          have ddf := Yd.f
          go_wp2_with (fail)
          go_roundg m
          case measure => omega
          case rel =>
            have Ya := Xa.out.mono hb9
            have Yz := Xz.out.mono hb9
            have hB9q := hB9.out
            refine ⟨j + 1, (addS false s x).1, by omega, by go_num, Ya.far5 _ (by omega), Yz.far5 _ (by omega), Yd.set5 _, (trF_next HS.out HX.out).trans (Prod.ext rfl HF.out), addS_ok HK.out HKx.out, by (try simp only [World.size_setCell]); omega, ?_⟩
            exact set5_below (x := (addS false s x).1) hB9q (by omega)
      · have HF := hid hf
        clear hf
        go_cut [6, 7] (fun s6 s7 wx => CutG (∃ bb : Nat, s6 = .pointer (some ⟨bb, 0, none⟩) ∧ s7 = .bool false ∧ Hid (Bx wx bb 37 #[.int .i64 z5.a, .int .i64 z5.b, .int .i64 z5.c, .int .i64 z5.d, .int .i64 z5.e]) ∧ wr.heap.size ≤ bb) (Below wr.heap.size wr wx))
        case first =>
          have ycd0 : wr.drew.cell? ⟨w1.heap.size, 0, none⟩ = some (.int .i64 s.a) := cd0
          have ycd1 : wr.drew.cell? ⟨w1.heap.size, 1, none⟩ = some (.int .i64 s.b) := cd1
          have ycd2 : wr.drew.cell? ⟨w1.heap.size, 2, none⟩ = some (.int .i64 s.c) := cd2
          have ycd3 : wr.drew.cell? ⟨w1.heap.size, 3, none⟩ = some (.int .i64 s.d) := cd3
          have ycd4 : wr.drew.cell? ⟨w1.heap.size, 4, none⟩ = some (.int .i64 s.e) := cd4
          have yca0 : wr.drew.cell? ⟨w.heap.size, 0, none⟩ = some (.int .i64 (C : Int)) := ca0
          have yca1 : wr.drew.cell? ⟨w.heap.size, 1, none⟩ = some (.int .i64 (C : Int)) := ca1
          have yca2 : wr.drew.cell? ⟨w.heap.size, 2, none⟩ = some (.slice (some ⟨g0, 0, none⟩) n cp) := ca2
          have yq0 : wr.drew.cell? ⟨g0, t * 5 + j * 5, none⟩ = some (.int .i64 x.a) := q0
          have yq1 : wr.drew.cell? ⟨g0, t * 5 + j * 5 + 1, none⟩ = some (.int .i64 x.b) := q1
          have yq2 : wr.drew.cell? ⟨g0, t * 5 + j * 5 + 2, none⟩ = some (.int .i64 x.c) := q2
          have yq3 : wr.drew.cell? ⟨g0, t * 5 + j * 5 + 3, none⟩ = some (.int .i64 x.d) := q3
          have yq4 : wr.drew.cell? ⟨g0, t * 5 + j * 5 + 4, none⟩ = some (.int .i64 x.e) := q4
          refine wp_region_x (fun w' => w'.cell? ⟨w1.heap.size, 0, none⟩ = some (.int .i64 s.a) ∧ w'.cell? ⟨w1.heap.size, 1, none⟩ = some (.int .i64 s.b) ∧ w'.cell? ⟨w1.heap.size, 2, none⟩ = some (.int .i64 s.c) ∧ w'.cell? ⟨w1.heap.size, 3, none⟩ = some (.int .i64 s.d) ∧ w'.cell? ⟨w1.heap.size, 4, none⟩ = some (.int .i64 s.e) ∧ w'.cell? ⟨w.heap.size, 0, none⟩ = some (.int .i64 (C : Int)) ∧ w'.cell? ⟨w.heap.size, 1, none⟩ = some (.int .i64 (C : Int)) ∧ w'.cell? ⟨w.heap.size, 2, none⟩ = some (.slice (some ⟨g0, 0, none⟩) n cp) ∧ w'.cell? ⟨g0, t * 5 + j * 5, none⟩ = some (.int .i64 x.a) ∧ w'.cell? ⟨g0, t * 5 + j * 5 + 1, none⟩ = some (.int .i64 x.b) ∧ w'.cell? ⟨g0, t * 5 + j * 5 + 2, none⟩ = some (.int .i64 x.c) ∧ w'.cell? ⟨g0, t * 5 + j * 5 + 3, none⟩ = some (.int .i64 x.d) ∧ w'.cell? ⟨g0, t * 5 + j * 5 + 4, none⟩ = some (.int .i64 x.e)) 1000 (by kernel_rfl) ⟨ycd0, ycd1, ycd2, ycd3, ycd4, yca0, yca1, yca2, yq0, yq1, yq2, yq3, yq4⟩ (fun hS0 => ?_)
          refine wpAnyX_take (i := 0) (oi := _) (v := ?_) rfl (by kernel_rfl) (by kernel_rfl) (by kernel_rfl) (by kernel_rfl) (fun _ _ _ h => h) (Or.inl ⟨by rfl, ?_⟩) hS0 ?_
          rotate_left 1
          · (intro w hSw; (try dsimp only at hSw); go_simp; (try with_reducible rfl))
          try simp only [Act.put, List.setIfInBounds_toArray, List.set_cons_zero, List.set_cons_succ]
          refine wpAnyX_take (i := 1) (oi := _) (v := ?_) rfl (by kernel_rfl) (by kernel_rfl) (by kernel_rfl) (by kernel_rfl) (fun _ _ _ h => h) (Or.inl ⟨by rfl, ?_⟩) hS0 ?_
          rotate_left 1
          · (intro w hSw; (try dsimp only at hSw); go_simp; (try with_reducible rfl))
          try simp only [Act.put, List.setIfInBounds_toArray, List.set_cons_zero, List.set_cons_succ]
          refine wpAnyX_take (i := 2) (oi := _) (v := ?_) rfl (by kernel_rfl) (by kernel_rfl) (by kernel_rfl) (by kernel_rfl) (fun _ _ _ h => h) (Or.inl ⟨by rfl, ?_⟩) hS0 ?_
          rotate_left 1
          · (intro w hSw; (try dsimp only at hSw); go_simp; (try with_reducible rfl))
          try simp only [Act.put, List.setIfInBounds_toArray, List.set_cons_zero, List.set_cons_succ]
          refine wpAnyX_take (i := 4) (oi := _) (v := ?_) rfl (by kernel_rfl) (by kernel_rfl) (by kernel_rfl) (by kernel_rfl) (fun _ _ _ h => h) (Or.inl ⟨by rfl, ?_⟩) hS0 ?_
          rotate_left 1
          · (intro w hSw; (try dsimp only at hSw); go_simp; (try with_reducible rfl))
          try simp only [Act.put, List.setIfInBounds_toArray, List.set_cons_zero, List.set_cons_succ]
          refine wpAnyX_two (i := 3) (j := 11) (oi := _) (oj := _) rfl rfl (by kernel_rfl) (fun K hK => ?_) (fun K hK => ?_)
          · go_simp
            refine (rw_i (s := t) HT1.out HT2.out (by omega) hcp2 h1 (by omega)).mono ?_
            rintro ee w8 ⟨rfl, hb8⟩
            have hz8 := hb8.size
            (try simp only [World.size_drew, World.size_alloc] at hz8)
            refine hK.out _ _ (fun _ => ?_) (fun hS1 => ?_)
            · exact ⟨kc hb8 (hS0.1), kc hb8 (hS0.2.1), kc hb8 (hS0.2.2.1), kc hb8 (hS0.2.2.2.1), kc hb8 (hS0.2.2.2.2.1), kc hb8 (hS0.2.2.2.2.2.1), kc hb8 (hS0.2.2.2.2.2.2.1), kc hb8 (hS0.2.2.2.2.2.2.2.1), kc hb8 (hS0.2.2.2.2.2.2.2.2.1), kc hb8 (hS0.2.2.2.2.2.2.2.2.2.1), kc hb8 (hS0.2.2.2.2.2.2.2.2.2.2.1), kc hb8 (hS0.2.2.2.2.2.2.2.2.2.2.2.1), kc hb8 (hS0.2.2.2.2.2.2.2.2.2.2.2.2)⟩
            clear hK K
            have hS1 := hS1 (by decide)
            try simp only [Act.put, List.setIfInBounds_toArray, List.set_cons_zero, List.set_cons_succ]
            refine wpAnyX_take (i := 5) (oi := _) (v := ?_) rfl (by kernel_rfl) (by kernel_rfl) (by kernel_rfl) (by kernel_rfl) (fun _ _ _ h => h) (Or.inl ⟨by rfl, ?_⟩) hS1 ?_
            rotate_left 1
            · (intro w hSw; (try dsimp only at hSw); go_simp; (try with_reducible rfl))
            try simp only [Act.put, List.setIfInBounds_toArray, List.set_cons_zero, List.set_cons_succ]
            refine wpAnyX_take (i := 6) (oi := _) (v := ?_) rfl (by kernel_rfl) (by kernel_rfl) (by kernel_rfl) (by kernel_rfl) (fun _ _ _ h => h) (Or.inl ⟨by rfl, ?_⟩) hS1 ?_
            rotate_left 1
            · (intro w hSw; (try dsimp only at hSw); go_simp; (try with_reducible rfl))
            try simp only [Act.put, List.setIfInBounds_toArray, List.set_cons_zero, List.set_cons_succ]
            refine wpAnyX_two (i := 7) (j := 11) (oi := _) (oj := _) rfl rfl (by kernel_rfl) (fun K hK => ?_) (fun K hK => ?_)
            · go_simp
              refine (iadd_f (x := s) (y := x) HK.out HKx.out HF.out _).mono ?_
              rintro ee w9 ⟨rfl, hb9⟩
              have hz9 := hb9.size
              (try simp only [World.size_drew, World.size_alloc] at hz9)
              refine hK.out _ _ (fun _ => ?_) (fun hS2 => ?_)
              · exact ⟨kc hb9 (hS1.1), kc hb9 (hS1.2.1), kc hb9 (hS1.2.2.1), kc hb9 (hS1.2.2.2.1), kc hb9 (hS1.2.2.2.2.1), kc hb9 (hS1.2.2.2.2.2.1), kc hb9 (hS1.2.2.2.2.2.2.1), kc hb9 (hS1.2.2.2.2.2.2.2.1), kc hb9 (hS1.2.2.2.2.2.2.2.2.1), kc hb9 (hS1.2.2.2.2.2.2.2.2.2.1), kc hb9 (hS1.2.2.2.2.2.2.2.2.2.2.1), kc hb9 (hS1.2.2.2.2.2.2.2.2.2.2.2.1), kc hb9 (hS1.2.2.2.2.2.2.2.2.2.2.2.2)⟩
              clear hK K
              have hS2 := hS2 (by decide)
              try simp only [Act.put, List.setIfInBounds_toArray, List.set_cons_zero, List.set_cons_succ]
              refine wpAnyX_take (i := 8) (oi := _) (v := ?_) rfl (by kernel_rfl) (by kernel_rfl) (by kernel_rfl) (by kernel_rfl) (fun _ _ _ h => h) (Or.inl ⟨by rfl, ?_⟩) hS2 ?_
              rotate_left 1
              · (intro w hSw; (try dsimp only at hSw); go_simp; (try with_reducible rfl))
              try simp only [Act.put, List.setIfInBounds_toArray, List.set_cons_zero, List.set_cons_succ]
              refine wpAnyX_take (i := 9) (oi := _) (v := ?_) rfl (by kernel_rfl) (by kernel_rfl) (by kernel_rfl) (by kernel_rfl) (fun _ _ _ h => h) (Or.inl ⟨by rfl, ?_⟩) hS2 ?_
              rotate_left 1
              · (intro w hSw; (try dsimp only at hSw); go_simp; (try with_reducible rfl))
              try simp only [Act.put, List.setIfInBounds_toArray, List.set_cons_zero, List.set_cons_succ]
              refine wpAnyX_take (i := 10) (oi := _) (v := ?_) rfl (by kernel_rfl) (by kernel_rfl) (by kernel_rfl) (by kernel_rfl) (fun _ _ _ h => h) (Or.inl ⟨by rfl, ?_⟩) hS2 ?_
              rotate_left 1
              · (intro w hSw; (try dsimp only at hSw); go_simp; (try with_reducible rfl))
              try simp only [Act.put, List.setIfInBounds_toArray, List.set_cons_zero, List.set_cons_succ]
              refine wpAnyX_one (i := 11) (o := _) rfl (by kernel_rfl) (fun K hK => ?_)
              go_simp
              refine hK.out _ _ (fun _ => ?_) (fun hS3 => ?_)
              · first | exact ⟨kal (hS2.1), kal (hS2.2.1), kal (hS2.2.2.1), kal (hS2.2.2.2.1), kal (hS2.2.2.2.2.1), kal (hS2.2.2.2.2.2.1), kal (hS2.2.2.2.2.2.2.1), kal (hS2.2.2.2.2.2.2.2.1), kal (hS2.2.2.2.2.2.2.2.2.1), kal (hS2.2.2.2.2.2.2.2.2.2.1), kal (hS2.2.2.2.2.2.2.2.2.2.2.1), kal (hS2.2.2.2.2.2.2.2.2.2.2.2.1), kal (hS2.2.2.2.2.2.2.2.2.2.2.2.2)⟩ | exact ⟨kald (hS2.1), kald (hS2.2.1), kald (hS2.2.2.1), kald (hS2.2.2.2.1), kald (hS2.2.2.2.2.1), kald (hS2.2.2.2.2.2.1), kald (hS2.2.2.2.2.2.2.1), kald (hS2.2.2.2.2.2.2.2.1), kald (hS2.2.2.2.2.2.2.2.2.1), kald (hS2.2.2.2.2.2.2.2.2.2.1), kald (hS2.2.2.2.2.2.2.2.2.2.2.1), kald (hS2.2.2.2.2.2.2.2.2.2.2.2.1), kald (hS2.2.2.2.2.2.2.2.2.2.2.2.2)⟩
              clear hK K
              have hS3 := hS3 (by decide)
              try simp only [Act.put, List.setIfInBounds_toArray, List.set_cons_zero, List.set_cons_succ]
              refine wpAnyX_one (i := 12) (o := _) rfl (by kernel_rfl) (fun K hK => ?_)
              go_simp
              refine hK.out _ _ (fun _ => ?_) (fun hS4 => ?_)
              · first | exact ⟨kre (by omega) (hS3.1), kre (by omega) (hS3.2.1), kre (by omega) (hS3.2.2.1), kre (by omega) (hS3.2.2.2.1), kre (by omega) (hS3.2.2.2.2.1), kre (by omega) (hS3.2.2.2.2.2.1), kre (by omega) (hS3.2.2.2.2.2.2.1), kre (by omega) (hS3.2.2.2.2.2.2.2.1), kre (by omega) (hS3.2.2.2.2.2.2.2.2.1), kre (by omega) (hS3.2.2.2.2.2.2.2.2.2.1), kre (by omega) (hS3.2.2.2.2.2.2.2.2.2.2.1), kre (by omega) (hS3.2.2.2.2.2.2.2.2.2.2.2.1), kre (by omega) (hS3.2.2.2.2.2.2.2.2.2.2.2.2)⟩ | exact ⟨kal (hS3.1), kal (hS3.2.1), kal (hS3.2.2.1), kal (hS3.2.2.2.1), kal (hS3.2.2.2.2.1), kal (hS3.2.2.2.2.2.1), kal (hS3.2.2.2.2.2.2.1), kal (hS3.2.2.2.2.2.2.2.1), kal (hS3.2.2.2.2.2.2.2.2.1), kal (hS3.2.2.2.2.2.2.2.2.2.1), kal (hS3.2.2.2.2.2.2.2.2.2.2.1), kal (hS3.2.2.2.2.2.2.2.2.2.2.2.1), kal (hS3.2.2.2.2.2.2.2.2.2.2.2.2)⟩
              clear hK K
              have hS4 := hS4 (by decide)
              try simp only [Act.put, List.setIfInBounds_toArray, List.set_cons_zero, List.set_cons_succ]
              refine wpAnyX_take (i := 13) (oi := _) (v := ?_) rfl (by kernel_rfl) (by kernel_rfl) (by kernel_rfl) (by kernel_rfl) (fun _ _ _ h => h) (Or.inl ⟨by rfl, ?_⟩) hS4 ?_
              rotate_left 1
              · (intro w hSw; (try dsimp only at hSw); go_simp; (try with_reducible rfl))
              change wpAnyX _ _ _ _ _ _ _ _ (Act.put _ (some 7) _) _
              try simp only [Act.put, List.setIfInBounds_toArray, List.set_cons_zero, List.set_cons_succ]
              refine wpAnyX_done (by kernel_rfl) ?_ _
              go_wp2_with fail
              go_meet
              refine ⟨⟨_, rfl, rfl, ?_, ?_⟩, ?_⟩
              · show Bx _ _ _ _
                first | exact Bx.new rfl | exact ((((QB.set rfl).set rfl).set rfl).set rfl).set rfl
              · first | exact Nat.le_refl _ | omega
              · (repeat' (first | (with_reducible exact Below.refl _ _) | (with_reducible assumption) | (with_reducible refine Below.alloc ?_ ?_ _) | (with_reducible refine Below.drew ?_) | (with_reducible refine below_drewN ?_ _) | (with_reducible refine Below.setCell ?_ ?_ _) | (with_reducible refine chain ?_ (by assumption) ?_) | omega | (simp; done) | (simp; omega)))
            · go_simp
              refine hK.out _ _ (fun _ => ?_) (fun hS2 => ?_)
              · first | exact ⟨kal (hS1.1), kal (hS1.2.1), kal (hS1.2.2.1), kal (hS1.2.2.2.1), kal (hS1.2.2.2.2.1), kal (hS1.2.2.2.2.2.1), kal (hS1.2.2.2.2.2.2.1), kal (hS1.2.2.2.2.2.2.2.1), kal (hS1.2.2.2.2.2.2.2.2.1), kal (hS1.2.2.2.2.2.2.2.2.2.1), kal (hS1.2.2.2.2.2.2.2.2.2.2.1), kal (hS1.2.2.2.2.2.2.2.2.2.2.2.1), kal (hS1.2.2.2.2.2.2.2.2.2.2.2.2)⟩ | exact ⟨kald (hS1.1), kald (hS1.2.1), kald (hS1.2.2.1), kald (hS1.2.2.2.1), kald (hS1.2.2.2.2.1), kald (hS1.2.2.2.2.2.1), kald (hS1.2.2.2.2.2.2.1), kald (hS1.2.2.2.2.2.2.2.1), kald (hS1.2.2.2.2.2.2.2.2.1), kald (hS1.2.2.2.2.2.2.2.2.2.1), kald (hS1.2.2.2.2.2.2.2.2.2.2.1), kald (hS1.2.2.2.2.2.2.2.2.2.2.2.1), kald (hS1.2.2.2.2.2.2.2.2.2.2.2.2)⟩
              clear hK K
              have hS2 := hS2 (by decide)
              try simp only [Act.put, List.setIfInBounds_toArray, List.set_cons_zero, List.set_cons_succ]
              refine wpAnyX_one (i := 7) (o := _) rfl (by kernel_rfl) (fun K hK => ?_)
              go_simp
              refine (iadd_f (x := s) (y := x) HK.out HKx.out HF.out _).mono ?_
              rintro ee w9 ⟨rfl, hb9⟩
              have hz9 := hb9.size
              (try simp only [World.size_drew, World.size_alloc] at hz9)
              refine hK.out _ _ (fun _ => ?_) (fun hS3 => ?_)
              · exact ⟨kc hb9 (hS2.1), kc hb9 (hS2.2.1), kc hb9 (hS2.2.2.1), kc hb9 (hS2.2.2.2.1), kc hb9 (hS2.2.2.2.2.1), kc hb9 (hS2.2.2.2.2.2.1), kc hb9 (hS2.2.2.2.2.2.2.1), kc hb9 (hS2.2.2.2.2.2.2.2.1), kc hb9 (hS2.2.2.2.2.2.2.2.2.1), kc hb9 (hS2.2.2.2.2.2.2.2.2.2.1), kc hb9 (hS2.2.2.2.2.2.2.2.2.2.2.1), kc hb9 (hS2.2.2.2.2.2.2.2.2.2.2.2.1), kc hb9 (hS2.2.2.2.2.2.2.2.2.2.2.2.2)⟩
              clear hK K
              have hS3 := hS3 (by decide)
              try simp only [Act.put, List.setIfInBounds_toArray, List.set_cons_zero, List.set_cons_succ]
              refine wpAnyX_take (i := 8) (oi := _) (v := ?_) rfl (by kernel_rfl) (by kernel_rfl) (by kernel_rfl) (by kernel_rfl) (fun _ _ _ h => h) (Or.inl ⟨by rfl, ?_⟩) hS3 ?_
              rotate_left 1
              · (intro w hSw; (try dsimp only at hSw); go_simp; (try with_reducible rfl))
              try simp only [Act.put, List.setIfInBounds_toArray, List.set_cons_zero, List.set_cons_succ]
              refine wpAnyX_take (i := 9) (oi := _) (v := ?_) rfl (by kernel_rfl) (by kernel_rfl) (by kernel_rfl) (by kernel_rfl) (fun _ _ _ h => h) (Or.inl ⟨by rfl, ?_⟩) hS3 ?_
              rotate_left 1
              · (intro w hSw; (try dsimp only at hSw); go_simp; (try with_reducible rfl))
              try simp only [Act.put, List.setIfInBounds_toArray, List.set_cons_zero, List.set_cons_succ]
              refine wpAnyX_take (i := 10) (oi := _) (v := ?_) rfl (by kernel_rfl) (by kernel_rfl) (by kernel_rfl) (by kernel_rfl) (fun _ _ _ h => h) (Or.inl ⟨by rfl, ?_⟩) hS3 ?_
              rotate_left 1
              · (intro w hSw; (try dsimp only at hSw); go_simp; (try with_reducible rfl))
              try simp only [Act.put, List.setIfInBounds_toArray, List.set_cons_zero, List.set_cons_succ]
              refine wpAnyX_one (i := 12) (o := _) rfl (by kernel_rfl) (fun K hK => ?_)
              have QB : Bx w9 w8.heap.size 37 #[.int .i64 0, .int .i64 0, .int .i64 0, .int .i64 0, .int .i64 0] := by
                have QB0 : Bx (w8.alloc (.cells #[.int .i64 0, .int .i64 0, .int .i64 0, .int .i64 0, .int .i64 0] 37)) w8.heap.size 37 #[.int .i64 0, .int .i64 0, .int .i64 0, .int .i64 0, .int .i64 0] := Bx.new rfl
                exact ((hb9.block _ (by (try simp only [World.size_drew, World.size_alloc]); omega)).trans QB0)
              have n0 := QB.c 0 rfl
              have n1 := QB.c 1 rfl
              have n2 := QB.c 2 rfl
              have n3 := QB.c 3 rfl
              have n4 := QB.c 4 rfl
              have nf := QB.f
              go_simp
              refine hK.out _ _ (fun _ => ?_) (fun hS4 => ?_)
              · exact ⟨kst5 (by omega) (hS3.1), kst5 (by omega) (hS3.2.1), kst5 (by omega) (hS3.2.2.1), kst5 (by omega) (hS3.2.2.2.1), kst5 (by omega) (hS3.2.2.2.2.1), kst5 (by omega) (hS3.2.2.2.2.2.1), kst5 (by omega) (hS3.2.2.2.2.2.2.1), kst5 (by omega) (hS3.2.2.2.2.2.2.2.1), kst5 (by omega) (hS3.2.2.2.2.2.2.2.2.1), kst5 (by omega) (hS3.2.2.2.2.2.2.2.2.2.1), kst5 (by omega) (hS3.2.2.2.2.2.2.2.2.2.2.1), kst5 (by omega) (hS3.2.2.2.2.2.2.2.2.2.2.2.1), kst5 (by omega) (hS3.2.2.2.2.2.2.2.2.2.2.2.2)⟩
              clear hK K
              have hS4 := hS4 (by decide)
              try simp only [Act.put, List.setIfInBounds_toArray, List.set_cons_zero, List.set_cons_succ]
              refine wpAnyX_take (i := 13) (oi := _) (v := ?_) rfl (by kernel_rfl) (by kernel_rfl) (by kernel_rfl) (by kernel_rfl) (fun _ _ _ h => h) (Or.inl ⟨by rfl, ?_⟩) hS4 ?_
              rotate_left 1
              · (intro w hSw; (try dsimp only at hSw); go_simp; (try with_reducible rfl))
              change wpAnyX _ _ _ _ _ _ _ _ (Act.put _ (some 7) _) _
              try simp only [Act.put, List.setIfInBounds_toArray, List.set_cons_zero, List.set_cons_succ]
              refine wpAnyX_done (by kernel_rfl) ?_ _
              go_wp2_with fail
              go_meet
              refine ⟨⟨_, rfl, rfl, ?_, ?_⟩, ?_⟩
              · show Bx _ _ _ _
                first | exact Bx.new rfl | exact ((((QB.set rfl).set rfl).set rfl).set rfl).set rfl
              · first | exact Nat.le_refl _ | omega
              · (repeat' (first | (with_reducible exact Below.refl _ _) | (with_reducible assumption) | (with_reducible refine Below.alloc ?_ ?_ _) | (with_reducible refine Below.drew ?_) | (with_reducible refine below_drewN ?_ _) | (with_reducible refine Below.setCell ?_ ?_ _) | (with_reducible refine chain ?_ (by assumption) ?_) | omega | (simp; done) | (simp; omega)))
          · go_simp
            refine hK.out _ _ (fun _ => ?_) (fun hS1 => ?_)
            · first | exact ⟨kal (hS0.1), kal (hS0.2.1), kal (hS0.2.2.1), kal (hS0.2.2.2.1), kal (hS0.2.2.2.2.1), kal (hS0.2.2.2.2.2.1), kal (hS0.2.2.2.2.2.2.1), kal (hS0.2.2.2.2.2.2.2.1), kal (hS0.2.2.2.2.2.2.2.2.1), kal (hS0.2.2.2.2.2.2.2.2.2.1), kal (hS0.2.2.2.2.2.2.2.2.2.2.1), kal (hS0.2.2.2.2.2.2.2.2.2.2.2.1), kal (hS0.2.2.2.2.2.2.2.2.2.2.2.2)⟩ | exact ⟨kald (hS0.1), kald (hS0.2.1), kald (hS0.2.2.1), kald (hS0.2.2.2.1), kald (hS0.2.2.2.2.1), kald (hS0.2.2.2.2.2.1), kald (hS0.2.2.2.2.2.2.1), kald (hS0.2.2.2.2.2.2.2.1), kald (hS0.2.2.2.2.2.2.2.2.1), kald (hS0.2.2.2.2.2.2.2.2.2.1), kald (hS0.2.2.2.2.2.2.2.2.2.2.1), kald (hS0.2.2.2.2.2.2.2.2.2.2.2.1), kald (hS0.2.2.2.2.2.2.2.2.2.2.2.2)⟩
            clear hK K
            have hS1 := hS1 (by decide)
            try simp only [Act.put, List.setIfInBounds_toArray, List.set_cons_zero, List.set_cons_succ]
            refine wpAnyX_one (i := 3) (o := _) rfl (by kernel_rfl) (fun K hK => ?_)
            go_simp
            refine (rw_i (s := t) HT1.out HT2.out (by omega) hcp2 h1 (by omega)).mono ?_
            rintro ee w8 ⟨rfl, hb8⟩
            have hz8 := hb8.size
            (try simp only [World.size_drew, World.size_alloc] at hz8)
            refine hK.out _ _ (fun _ => ?_) (fun hS2 => ?_)
            · exact ⟨kc hb8 (hS1.1), kc hb8 (hS1.2.1), kc hb8 (hS1.2.2.1), kc hb8 (hS1.2.2.2.1), kc hb8 (hS1.2.2.2.2.1), kc hb8 (hS1.2.2.2.2.2.1), kc hb8 (hS1.2.2.2.2.2.2.1), kc hb8 (hS1.2.2.2.2.2.2.2.1), kc hb8 (hS1.2.2.2.2.2.2.2.2.1), kc hb8 (hS1.2.2.2.2.2.2.2.2.2.1), kc hb8 (hS1.2.2.2.2.2.2.2.2.2.2.1), kc hb8 (hS1.2.2.2.2.2.2.2.2.2.2.2.1), kc hb8 (hS1.2.2.2.2.2.2.2.2.2.2.2.2)⟩
            clear hK K
            have hS2 := hS2 (by decide)
            try simp only [Act.put, List.setIfInBounds_toArray, List.set_cons_zero, List.set_cons_succ]
            refine wpAnyX_take (i := 5) (oi := _) (v := ?_) rfl (by kernel_rfl) (by kernel_rfl) (by kernel_rfl) (by kernel_rfl) (fun _ _ _ h => h) (Or.inl ⟨by rfl, ?_⟩) hS2 ?_
            rotate_left 1
            · (intro w hSw; (try dsimp only at hSw); go_simp; (try with_reducible rfl))
            try simp only [Act.put, List.setIfInBounds_toArray, List.set_cons_zero, List.set_cons_succ]
            refine wpAnyX_take (i := 6) (oi := _) (v := ?_) rfl (by kernel_rfl) (by kernel_rfl) (by kernel_rfl) (by kernel_rfl) (fun _ _ _ h => h) (Or.inl ⟨by rfl, ?_⟩) hS2 ?_
            rotate_left 1
            · (intro w hSw; (try dsimp only at hSw); go_simp; (try with_reducible rfl))
            try simp only [Act.put, List.setIfInBounds_toArray, List.set_cons_zero, List.set_cons_succ]
            refine wpAnyX_one (i := 7) (o := _) rfl (by kernel_rfl) (fun K hK => ?_)
            go_simp
            refine (iadd_f (x := s) (y := x) HK.out HKx.out HF.out _).mono ?_
            rintro ee w9 ⟨rfl, hb9⟩
            have hz9 := hb9.size
            (try simp only [World.size_drew, World.size_alloc] at hz9)
            refine hK.out _ _ (fun _ => ?_) (fun hS3 => ?_)
            · exact ⟨kc hb9 (hS2.1), kc hb9 (hS2.2.1), kc hb9 (hS2.2.2.1), kc hb9 (hS2.2.2.2.1), kc hb9 (hS2.2.2.2.2.1), kc hb9 (hS2.2.2.2.2.2.1), kc hb9 (hS2.2.2.2.2.2.2.1), kc hb9 (hS2.2.2.2.2.2.2.2.1), kc hb9 (hS2.2.2.2.2.2.2.2.2.1), kc hb9 (hS2.2.2.2.2.2.2.2.2.2.1), kc hb9 (hS2.2.2.2.2.2.2.2.2.2.2.1), kc hb9 (hS2.2.2.2.2.2.2.2.2.2.2.2.1), kc hb9 (hS2.2.2.2.2.2.2.2.2.2.2.2.2)⟩
            clear hK K
            have hS3 := hS3 (by decide)
            try simp only [Act.put, List.setIfInBounds_toArray, List.set_cons_zero, List.set_cons_succ]
            refine wpAnyX_take (i := 8) (oi := _) (v := ?_) rfl (by kernel_rfl) (by kernel_rfl) (by kernel_rfl) (by kernel_rfl) (fun _ _ _ h => h) (Or.inl ⟨by rfl, ?_⟩) hS3 ?_
            rotate_left 1
            · (intro w hSw; (try dsimp only at hSw); go_simp; (try with_reducible rfl))
            try simp only [Act.put, List.setIfInBounds_toArray, List.set_cons_zero, List.set_cons_succ]
            refine wpAnyX_take (i := 9) (oi := _) (v := ?_) rfl (by kernel_rfl) (by kernel_rfl) (by kernel_rfl) (by kernel_rfl) (fun _ _ _ h => h) (Or.inl ⟨by rfl, ?_⟩) hS3 ?_
            rotate_left 1
            · (intro w hSw; (try dsimp only at hSw); go_simp; (try with_reducible rfl))
            try simp only [Act.put, List.setIfInBounds_toArray, List.set_cons_zero, List.set_cons_succ]
            refine wpAnyX_take (i := 10) (oi := _) (v := ?_) rfl (by kernel_rfl) (by kernel_rfl) (by kernel_rfl) (by kernel_rfl) (fun _ _ _ h => h) (Or.inl ⟨by rfl, ?_⟩) hS3 ?_
            rotate_left 1
            · (intro w hSw; (try dsimp only at hSw); go_simp; (try with_reducible rfl))
            try simp only [Act.put, List.setIfInBounds_toArray, List.set_cons_zero, List.set_cons_succ]
            refine wpAnyX_one (i := 12) (o := _) rfl (by kernel_rfl) (fun K hK => ?_)
            have QB : Bx w9 wr.heap.size 37 #[.int .i64 0, .int .i64 0, .int .i64 0, .int .i64 0, .int .i64 0] := by
              have QB0 : Bx (wr.alloc (.cells #[.int .i64 0, .int .i64 0, .int .i64 0, .int .i64 0, .int .i64 0] 37)) wr.heap.size 37 #[.int .i64 0, .int .i64 0, .int .i64 0, .int .i64 0, .int .i64 0] := Bx.new rfl
              exact ((hb9.block _ (by (try simp only [World.size_drew, World.size_alloc]); omega)).trans ((hb8.block _ (by (try simp only [World.size_drew, World.size_alloc]); omega)).trans QB0))
            have n0 := QB.c 0 rfl
            have n1 := QB.c 1 rfl
            have n2 := QB.c 2 rfl
            have n3 := QB.c 3 rfl
            have n4 := QB.c 4 rfl
            have nf := QB.f
            go_simp
            refine hK.out _ _ (fun _ => ?_) (fun hS4 => ?_)
            · exact ⟨kst5 (by omega) (hS3.1), kst5 (by omega) (hS3.2.1), kst5 (by omega) (hS3.2.2.1), kst5 (by omega) (hS3.2.2.2.1), kst5 (by omega) (hS3.2.2.2.2.1), kst5 (by omega) (hS3.2.2.2.2.2.1), kst5 (by omega) (hS3.2.2.2.2.2.2.1), kst5 (by omega) (hS3.2.2.2.2.2.2.2.1), kst5 (by omega) (hS3.2.2.2.2.2.2.2.2.1), kst5 (by omega) (hS3.2.2.2.2.2.2.2.2.2.1), kst5 (by omega) (hS3.2.2.2.2.2.2.2.2.2.2.1), kst5 (by omega) (hS3.2.2.2.2.2.2.2.2.2.2.2.1), kst5 (by omega) (hS3.2.2.2.2.2.2.2.2.2.2.2.2)⟩
            clear hK K
            have hS4 := hS4 (by decide)
            try simp only [Act.put, List.setIfInBounds_toArray, List.set_cons_zero, List.set_cons_succ]
            refine wpAnyX_take (i := 13) (oi := _) (v := ?_) rfl (by kernel_rfl) (by kernel_rfl) (by kernel_rfl) (by kernel_rfl) (fun _ _ _ h => h) (Or.inl ⟨by rfl, ?_⟩) hS4 ?_
            rotate_left 1
            · (intro w hSw; (try dsimp only at hSw); go_simp; (try with_reducible rfl))
            change wpAnyX _ _ _ _ _ _ _ _ (Act.put _ (some 7) _) _
            try simp only [Act.put, List.setIfInBounds_toArray, List.set_cons_zero, List.set_cons_succ]
            refine wpAnyX_done (by kernel_rfl) ?_ _
            go_wp2_with fail
            go_meet
            refine ⟨⟨_, rfl, rfl, ?_, ?_⟩, ?_⟩
            · show Bx _ _ _ _
              first | exact Bx.new rfl | exact ((((QB.set rfl).set rfl).set rfl).set rfl).set rfl
            · first | exact Nat.le_refl _ | omega
            · (repeat' (first | (with_reducible exact Below.refl _ _) | (with_reducible assumption) | (with_reducible refine Below.alloc ?_ ?_ _) | (with_reducible refine Below.drew ?_) | (with_reducible refine below_drewN ?_ _) | (with_reducible refine Below.setCell ?_ ?_ _) | (with_reducible refine chain ?_ (by assumption) ?_) | omega | (simp; done) | (simp; omega)))
        case rest =>
          obtain ⟨w9, rfl⟩ : ∃ w9, w9 = wc := ⟨_, rfl⟩
          obtain ⟨⟨bb, rfl, rfl, XS, hbb⟩, hb9⟩ := hcut
          have hz9 := hb9.size
          have lbb := XS.out.lt
          have e0 := XS.out.c 0 rfl
          have e1 := XS.out.c 1 rfl
          have e2 := XS.out.c 2 rfl
          have e3 := XS.out.c 3 rfl
          have e4 := XS.out.c 4 rfl
          have hB9 := hid (chain hB hb9 hBq)
          have Yz := Xz.out.mono hb9
          have dz0 := Yz.c 0 rfl
          have dz1 := Yz.c 1 rfl
          have dz2 := Yz.c 2 rfl
          have dz3 := Yz.c 3 rfl
          have dz4 := Yz.c 4 rfl
          have dzf := Yz.f
          go_wp2_with (fail)
          refine bodyPost_ret (v := dt 0 0 0 0 0 false) (by first | (simp [results, Try.results23, go_sem, *]; done) | (simp (disch := (first | omega | (simp; done) | (simp; omega))) [results, Try.results23, go_sem, *]; done) | (simp only [results, Try.results23]; go_simp; done)) rfl (TR.f (trF_up (j := j + 1) (by rw [trF_next HS.out HX.out]; exact HF.out) (by omega)) ?_)
          have hB9q := hB9.out
          (repeat' (first | (with_reducible exact Below.refl _ _) | (with_reducible assumption) | (with_reducible refine Below.alloc ?_ ?_ _) | (with_reducible refine Below.drew ?_) | (with_reducible refine below_drewN ?_ _) | (with_reducible refine Below.setCell ?_ ?_ _) | (with_reducible refine chain ?_ (by assumption) ?_) | omega | (simp; done) | (simp; omega)))

end Go.Proofs.Ytdgcanlbdneelaa
