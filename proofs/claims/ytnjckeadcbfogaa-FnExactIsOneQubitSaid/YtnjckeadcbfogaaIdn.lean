/- The unit matrix. -/
import Derived.Test.YtnjckeadcbfogaaZq27
namespace Go.Proofs.Ytnjckeadcbfogaa
open Go.RowKit RM
set_option linter.unusedVariables false
set_option linter.unusedSimpArgs false
attribute [local irreducible] World.setCell

/-- the unit matrix, as far as its first j rows are written -/
def unitP (N j q : Nat) : D5 := if anyB j (fun i => decide (q = i * N + i)) then one5 else z5
theorem unitP_0 (N n : Nat) : tab n (unitP N 0) = List.replicate n z5 := by
  rw [tab_repl]; exact tab_congr (fun q _ => by unfold unitP; rw [anyB_0]; rfl)
theorem unitP_set {N n j q : Nat} (hq : q = j * N + j) (hn : q < n) : (tab n (unitP N j)).set q one5 = tab n (unitP N (j + 1)) := by
  rw [tab_set hn]
  refine tab_congr (fun p _ => ?_)
  unfold unitP
  rw [anyB_succ]
  by_cases e : p = q
  · subst e; rw [if_pos rfl, if_pos (by simp [hq])]
  · rw [if_neg e, show decide (p = j * N + j) = false from decide_eq_false (by omega), Bool.or_false]
theorem unit_ok {N n : Nat} (j : Nat) : allB (tab n (unitP N j)) = true := by
  unfold allB tab
  rw [List.all_eq_true]; intro x hx
  obtain ⟨q, _, rfl⟩ := List.mem_map.1 hx
  unfold unitP; split
  · exact one5_ok
  · exact z5_ok

set_option maxRecDepth 100000 in
set_option maxHeartbeats 2000000 in
theorem tn0 (w : World) : Calls Try.prog 194 #[rg 1 0 0 0, .int .i64 0] w fun ee w' => ee = .returned (rg 1 0 0 0) ∧ Below w.heap.size w w' := by
  go_enter Try.func194, Try.ntmps194
  go_wp2_with (fail)
  go_rounds 1
  refine bodyPost_ret (v := rg 1 0 0 0) (by first | (simp [results, Try.results194, go_sem, *]; done) | (simp (disch := (first | omega | (simp; done) | (simp; omega))) [results, Try.results194, go_sem, *]; done) | (simp only [results, Try.results194]; go_simp; done)) rfl ⟨rfl, ?_⟩
  (repeat' (first | (with_reducible exact Below.refl _ _) | (with_reducible assumption) | (with_reducible refine Below.alloc ?_ ?_ _) | (with_reducible refine Below.drew ?_) | (with_reducible refine below_drewN ?_ _) | (with_reducible refine Below.setCell ?_ ?_ _) | (with_reducible refine chain ?_ (by assumption) ?_) | omega | (simp; done) | (simp; omega)))

set_option maxRecDepth 100000 in
set_option maxHeartbeats 2000000 in
theorem pw0 (w : World) : Calls Try.prog 147 #[.int .i64 0] w fun ee w' => ee = .returned (dy 1 0 0 0 0) ∧ Below w.heap.size w w' := by
  go_enter Try.func147, Try.ntmps147
  go_wp2_with (fail)
  refine (tn0 _).mono ?_
  rintro ee w1 ⟨rfl, hb1⟩
  obtain ⟨hc1, hf1, _⟩ := bcell hb1; have hz1 := hb1.size; (try simp at hz1); (try have hx10 : w.heap.size < w1.heap.size := (by omega)); (try have hx11 : w.heap.size + 1 < w1.heap.size := (by omega)); (try have hx12 : w.heap.size + 1 + 1 < w1.heap.size := (by omega)); (try have hx13 : w.heap.size + 1 + 1 + 1 < w1.heap.size := (by omega))
  go_wp2_with (fail)
  refine bodyPost_ret (v := dy 1 0 0 0 0) (by first | (simp [results, Try.results147, go_sem, *]; done) | (simp (disch := (first | omega | (simp; done) | (simp; omega))) [results, Try.results147, go_sem, *]; done) | (simp only [results, Try.results147]; go_simp; done)) rfl ⟨rfl, ?_⟩
  (repeat' (first | (with_reducible exact Below.refl _ _) | (with_reducible assumption) | (with_reducible refine Below.alloc ?_ ?_ _) | (with_reducible refine Below.drew ?_) | (with_reducible refine below_drewN ?_ _) | (with_reducible refine Below.setCell ?_ ?_ _) | (with_reducible refine chain ?_ (by assumption) ?_) | omega | (simp; done) | (simp; omega)))

set_option maxRecDepth 100000 in
set_option maxHeartbeats 4000000 in
theorem unit_s {N n : Nat} {w : World} (hn : n = N * N) (h1 : 1 ≤ N) (h2 : N ≤ 32) (h5 : n ≤ 1024) :
    Calls Try.prog 85 #[.int .i64 (N : Int)] w fun ee w' => ee = .returned (mv (N : Int) (N : Int) (some ⟨w.heap.size + 1, 0, none⟩) n n) ∧ Bk w' (w.heap.size + 1) 59 (tab n (unitP N N)) ∧ Below w.heap.size w w' := by
  have hmk := mkD n (by omega)
  have e1 : (N : Int) * (N : Int) = (n : Int) := by rw [hn]; simp
  have e2 : IntKind.i64.wrap (n : Int) = (n : Int) := IntWalk.i64_in _ (by omega)
  have HNN := hid hn
  clear hn
  go_enter Try.func85, Try.ntmps85
  go_wp2_with (fail)
  go_loopg [4] N (fun q s1 wr => ∃ j : Nat, j + q = N ∧ s1 = .int .i64 (j : Int) ∧ Hid (Bx wr (w.heap.size) 28 #[.int .i64 0, .int .i64 0, .slice none 0 0]) ∧ Hid (Bx wr (w.heap.size + 1 + 1) 28 #[.int .i64 (N : Int), .int .i64 (N : Int), .slice (some ⟨w.heap.size + 1, 0, none⟩) n n]) ∧ Hid (Bk wr (w.heap.size + 1) 59 (tab n (unitP N j))) ∧ w.heap.size + 1 + 1 + 1 ≤ wr.heap.size ∧ Below w.heap.size w wr)
  case atStart =>
    refine ⟨0, by omega, rfl, (by show Bx _ _ _ _; (repeat' (first | (with_reducible assumption) | (refine Bx.new (by first | (with_reducible rfl) | (simp; done))) | (with_reducible refine Bx.alloc ?_ _) | (with_reducible refine Bx.drew ?_) | (with_reducible refine Bx.drewN ?_ _) | (with_reducible refine Bx.mono ?_ (by assumption)) | (with_reducible refine Bx.badly ?_ (by assumption) (by omega)) | (with_reducible refine Bx.far ?_ (by (try simp only [World.size_alloc, World.size_drew]); omega)) | (with_reducible refine Bx.set ?_ rfl) | (with_reducible refine Bx.grown ?_ (by assumption) (by assumption))))), (by show Bx _ _ _ _; (repeat' (first | (with_reducible assumption) | (refine Bx.new (by first | (with_reducible rfl) | (simp; done))) | (with_reducible refine Bx.alloc ?_ _) | (with_reducible refine Bx.drew ?_) | (with_reducible refine Bx.drewN ?_ _) | (with_reducible refine Bx.mono ?_ (by assumption)) | (with_reducible refine Bx.badly ?_ (by assumption) (by omega)) | (with_reducible refine Bx.far ?_ (by (try simp only [World.size_alloc, World.size_drew]); omega)) | (with_reducible refine Bx.set ?_ rfl) | (with_reducible refine Bx.grown ?_ (by assumption) (by assumption))))), ?_, by simp, by (repeat' (first | (with_reducible exact Below.refl _ _) | (with_reducible assumption) | (with_reducible refine Below.alloc ?_ ?_ _) | (with_reducible refine Below.drew ?_) | (with_reducible refine below_drewN ?_ _) | (with_reducible refine Below.setCell ?_ ?_ _) | (with_reducible refine chain ?_ (by assumption) ?_) | omega | (simp; done) | (simp; omega)))⟩
    show Bk _ _ _ _
    rw [unitP_0]
    (repeat' (first | exact Bk.made' (by simp) | refine Bk.alloc ?_ _ | refine Bk.far ?_ (by simp) _))
  case round =>
    obtain ⟨j, hj, rfl, Xz, Xo, HG, hsz, hB⟩ := hrel
    have cz0 := Xz.out.c 0 rfl
    have cz1 := Xz.out.c 1 rfl
    have cz2 := Xz.out.c 2 rfl
    have lz := Xz.out.lt
    have fz := Xz.out.f
    have co0 := Xo.out.c 0 rfl
    have co1 := Xo.out.c 1 rfl
    have co2 := Xo.out.c 2 rfl
    have lo := Xo.out.lt
    have fo := Xo.out.f
    cases gk with
    | zero =>
      obtain rfl : j = N := by omega
      have hBq := hB.size
      go_wp2_with (fail)
      refine bodyPost_ret (v := mv (j : Int) (j : Int) (some ⟨w.heap.size + 1, 0, none⟩) n n) (by first | (simp [results, Try.results85, go_sem, *]; done) | (simp (disch := (first | omega | (simp; done) | (simp; omega))) [results, Try.results85, go_sem, *]; done) | (simp only [results, Try.results85]; go_simp; done)) rfl ⟨rfl, ?_, ?_⟩
      · (repeat' (first | exact HG.out | refine Bk.far ?_ (by show w.heap.size + 1 ≠ w.heap.size; omega) _))
      · (repeat' (first | (with_reducible exact Below.refl _ _) | (with_reducible assumption) | (with_reducible refine Below.alloc ?_ ?_ _) | (with_reducible refine Below.drew ?_) | (with_reducible refine below_drewN ?_ _) | (with_reducible refine Below.setCell ?_ ?_ _) | (with_reducible refine chain ?_ (by assumption) ?_) | omega | (simp; done) | (simp; omega)))
    | succ m =>
      have hlt : j < N := by omega
      have j1 : (j : Int) < (N : Int) := by omega
      obtain ⟨t, ht1, ht2, ht3, ht4⟩ := row_at HNN.out hlt
      obtain ⟨u, hu⟩ : ∃ u, u = t + j := ⟨_, rfl⟩
      have hq : u < n := by omega
      have HU : Hid (u = j * N + j) := by show u = _; rw [hu, ht4]
      have q2 : IntKind.i64.wrap (t : Int) = (t : Int) := IntWalk.i64_in _ (by omega)
      have q3 : IntKind.i64.wrap ((t : Int) + (j : Int)) = (u : Int) := by rw [hu, Int.natCast_add]; exact IntWalk.i64_in _ (by omega)
      have q4 : (u : Int) < (n : Int) := by omega
      have hBq := hB.size
      clear hu ht2 ht4
      go_wp2_with (fail)
      have yco1 : wr.drew.cell? ⟨w.heap.size + 1 + 1, 1, none⟩ = some (.int .i64 (N : Int)) := co1
      have yco2 : wr.drew.cell? ⟨w.heap.size + 1 + 1, 2, none⟩ = some (.slice (some ⟨w.heap.size + 1, 0, none⟩) n n) := co2
      refine wp_region_x (fun w' => w'.cell? ⟨w.heap.size + 1 + 1, 1, none⟩ = some (.int .i64 (N : Int)) ∧ w'.cell? ⟨w.heap.size + 1 + 1, 2, none⟩ = some (.slice (some ⟨w.heap.size + 1, 0, none⟩) n n)) 9 (by kernel_rfl) ⟨yco1, yco2⟩ (fun hS0 => ?_)
      refine wpAnyX_take (i := 0) (oi := _) (v := ?_) rfl (by kernel_rfl) (by kernel_rfl) (by kernel_rfl) (by kernel_rfl) (fun _ _ _ h => h) (Or.inl ⟨by rfl, ?_⟩) hS0 ?_
      rotate_left 1
      · (intro w hSw; (try dsimp only at hSw); go_simp; (try with_reducible rfl))
      try simp only [Act.put, List.setIfInBounds_toArray, List.set_cons_zero, List.set_cons_succ]
      refine wpAnyX_take (i := 1) (oi := _) (v := ?_) rfl (by kernel_rfl) (by kernel_rfl) (by kernel_rfl) (by kernel_rfl) (fun _ _ _ h => h) (Or.inl ⟨by rfl, ?_⟩) hS0 ?_
      rotate_left 1
      · (intro w hSw; (try dsimp only at hSw); go_simp; (try with_reducible rfl))
      try simp only [Act.put, List.setIfInBounds_toArray, List.set_cons_zero, List.set_cons_succ]
      refine wpAnyX_take (i := 2) (oi := _) (v := ?_) rfl (by kernel_rfl) (by kernel_rfl) (by kernel_rfl) (by kernel_rfl) (fun _ _ _ h => h) (Or.inl ⟨by rfl, ?_⟩) hS0 ?_
      rotate_left 1
      · (intro w hSw; (try dsimp only at hSw); go_simp; (try with_reducible rfl))
      try simp only [Act.put, List.setIfInBounds_toArray, List.set_cons_zero, List.set_cons_succ]
      refine wpAnyX_take (i := 3) (oi := _) (v := ?_) rfl (by kernel_rfl) (by kernel_rfl) (by kernel_rfl) (by kernel_rfl) (fun _ _ _ h => h) (Or.inl ⟨by rfl, ?_⟩) hS0 ?_
      rotate_left 1
      · (intro w hSw; (try dsimp only at hSw); go_simp; (try with_reducible rfl))
      try simp only [Act.put, List.setIfInBounds_toArray, List.set_cons_zero, List.set_cons_succ]
      refine wpAnyX_take (i := 4) (oi := _) (v := ?_) rfl (by kernel_rfl) (by kernel_rfl) (by kernel_rfl) (by kernel_rfl) (fun _ _ _ h => h) (Or.inl ⟨by rfl, ?_⟩) hS0 ?_
      rotate_left 1
      · (intro w hSw; (try dsimp only at hSw); go_simp; (try with_reducible rfl))
      try simp only [Act.put, List.setIfInBounds_toArray, List.set_cons_zero, List.set_cons_succ]
      refine wpAnyX_take (i := 5) (oi := _) (v := ?_) rfl (by kernel_rfl) (by kernel_rfl) (by kernel_rfl) (by kernel_rfl) (fun _ _ _ h => h) (Or.inl ⟨by rfl, ?_⟩) hS0 ?_
      rotate_left 1
      · (intro w hSw; (try dsimp only at hSw); go_simp; (try with_reducible rfl))
      try simp only [Act.put, List.setIfInBounds_toArray, List.set_cons_zero, List.set_cons_succ]
      refine wpAnyX_take (i := 6) (oi := _) (v := ?_) rfl (by kernel_rfl) (by kernel_rfl) (by kernel_rfl) (by kernel_rfl) (fun _ _ _ h => h) (Or.inl ⟨by rfl, ?_⟩) hS0 ?_
      rotate_left 1
      · (intro w hSw; (try dsimp only at hSw); go_simp; (try with_reducible rfl))
      try simp only [Act.put, List.setIfInBounds_toArray, List.set_cons_zero, List.set_cons_succ]
      refine wpAnyX_one (i := 7) (o := _) rfl (by kernel_rfl) (fun K hK => ?_)
      go_simp
      refine (pw0 _).mono ?_
      rintro ee w8 ⟨rfl, hb8⟩
      have hb9 : Below wr.heap.size wr w8 := ⟨hb8.os, hb8.tape, hb8.output, hb8.size, hb8.block⟩
      refine hK.out _ _ (fun _ => ?_) (fun hS1 => ?_)
      · exact ⟨kc hb8 (hS0.1), kc hb8 (hS0.2)⟩
      clear hK K
      have hS1 := hS1 (by decide)
      try simp only [Act.put, List.setIfInBounds_toArray, List.set_cons_zero, List.set_cons_succ]
      refine wpAnyX_take (i := 8) (oi := _) (v := ?_) rfl (by kernel_rfl) (by kernel_rfl) (by kernel_rfl) (by kernel_rfl) (fun _ _ _ h => h) (Or.inl ⟨by rfl, ?_⟩) hS1 ?_
      rotate_left 1
      · (intro w hSw; (try dsimp only at hSw); go_simp; (try with_reducible rfl))
      try simp only [Act.put, List.setIfInBounds_toArray, List.set_cons_zero, List.set_cons_succ]
      refine wpAnyX_one (i := 9) (o := _) rfl (by kernel_rfl) (fun K hK => ?_)
      have hG8 := hid (HG.out.mono hb9)
      have fr8 := hG8.out.fr
      obtain ⟨p0, p1, p2, p3, p4⟩ := hG8.out.cx (k := u) (tab_get hq)
      go_simp
      refine hK.out _ _ (fun h => absurd rfl h) (fun _ => ?_)
      clear hK K
      try simp only [Act.put, List.setIfInBounds_toArray, List.set_cons_zero, List.set_cons_succ]
      refine wpAnyX_done (by kernel_rfl) ?_ _
      go_wp2_with (fail)
      go_roundg m
      case measure => omega
      case rel =>
        have hz8 := hb9.size
        have R1 := Xz.out.mono hb9
        have R2 := Xo.out.mono hb9
        refine ⟨j + 1, by omega, by go_num, R1.far5 one5 (by omega), R2.far5 one5 (by omega), ?_, by (try simp only [World.size_setCell]); omega, ?_⟩
        · show Bk _ _ _ _
          have h1 := hG8.out.set (k := u) one5 (by rw [tab_len]; exact hq)
          rw [unitP_set HU.out hq] at h1
          exact h1
        · exact set5_below (x := one5) (chain hB hb9 hBq) (by omega)

set_option maxRecDepth 100000 in
set_option maxHeartbeats 2000000 in
theorem id_i_f {n : Int} {w : World} (hd : dimB n = false) : Calls Try.prog 87 #[.int .i64 n] w fun ee w' => ee = .returned (mt 0 0 none 0 0 false) ∧ Below w.heap.size w w' := by
  have HD := hid hd
  clear hd
  go_enter Try.func87, Try.ntmps87
  go_wp2_with (fail)
  refine (dm_i_f HD.out _).mono ?_
  rintro ee w1 ⟨rfl, hb1⟩
  obtain ⟨hc1, hf1, _⟩ := bcell hb1; have hz1 := hb1.size; (try simp at hz1); (try have hx10 : w.heap.size < w1.heap.size := (by omega)); (try have hx11 : w.heap.size + 1 < w1.heap.size := (by omega)); (try have hx12 : w.heap.size + 1 + 1 < w1.heap.size := (by omega)); (try have hx13 : w.heap.size + 1 + 1 + 1 < w1.heap.size := (by omega))
  go_wp2_with (fail)
  refine bodyPost_ret (v := mt 0 0 none 0 0 false) (by first | (simp [results, Try.results87, go_sem, *]; done) | (simp (disch := (first | omega | (simp; done) | (simp; omega))) [results, Try.results87, go_sem, *]; done) | (simp only [results, Try.results87]; go_simp; done)) rfl ⟨rfl, ?_⟩
  (repeat' (first | (with_reducible exact Below.refl _ _) | (with_reducible assumption) | (with_reducible refine Below.alloc ?_ ?_ _) | (with_reducible refine Below.drew ?_) | (with_reducible refine below_drewN ?_ _) | (with_reducible refine Below.setCell ?_ ?_ _) | (with_reducible refine chain ?_ (by assumption) ?_) | omega | (simp; done) | (simp; omega)))

set_option maxRecDepth 100000 in
set_option maxHeartbeats 4000000 in
theorem id_i_t {N n : Nat} {w : World} (hd : dimB (N : Int) = true) (hn : n = N * N) (h1 : 1 ≤ N) (h2 : N ≤ 32) (h5 : n ≤ 1024) : Calls Try.prog 87 #[.int .i64 (N : Int)] w fun ee w' => ∃ g : Nat, ee = .returned (mt (N : Int) (N : Int) (some ⟨g, 0, none⟩) n n true) ∧ Bk w' g 59 (tab n (unitP N N)) ∧ w.heap.size ≤ g ∧ Below w.heap.size w w' := by
  have HD := hid hd
  have HNN := hid hn
  clear hd hn
  go_enter Try.func87, Try.ntmps87
  go_wp2_with (fail)
  refine (dm_i_t HD.out _).mono ?_
  rintro ee w1 ⟨rfl, hb1⟩
  obtain ⟨hc1, hf1, _⟩ := bcell hb1; have hz1 := hb1.size; (try simp at hz1); (try have hx10 : w.heap.size < w1.heap.size := (by omega)); (try have hx11 : w.heap.size + 1 < w1.heap.size := (by omega)); (try have hx12 : w.heap.size + 1 + 1 < w1.heap.size := (by omega)); (try have hx13 : w.heap.size + 1 + 1 + 1 < w1.heap.size := (by omega))
  have Xz1 : Hid (Bx w1 (w.heap.size) 28 #[.int .i64 0, .int .i64 0, .slice none 0 0]) := by show Bx _ _ _ _; (repeat' (first | (with_reducible assumption) | (refine Bx.new (by first | (with_reducible rfl) | (simp; done))) | (with_reducible refine Bx.alloc ?_ _) | (with_reducible refine Bx.drew ?_) | (with_reducible refine Bx.drewN ?_ _) | (with_reducible refine Bx.mono ?_ (by assumption)) | (with_reducible refine Bx.badly ?_ (by assumption) (by omega)) | (with_reducible refine Bx.far ?_ (by (try simp only [World.size_alloc, World.size_drew]); omega)) | (with_reducible refine Bx.set ?_ rfl) | (with_reducible refine Bx.grown ?_ (by assumption) (by assumption))))
  have hw1 : Below w.heap.size w w1 := by (repeat' (first | (with_reducible exact Below.refl _ _) | (with_reducible assumption) | (with_reducible refine Below.alloc ?_ ?_ _) | (with_reducible refine Below.drew ?_) | (with_reducible refine below_drewN ?_ _) | (with_reducible refine Below.setCell ?_ ?_ _) | (with_reducible refine chain ?_ (by assumption) ?_) | omega | (simp; done) | (simp; omega)))
  go_wp2_with (fail)
  refine (zm (r := N) (c := N) (n := n) (by rw [HNN.out]; simp) h5).mono ?_
  rintro ee w2 ⟨gz, rfl, hBz, hgz, hb2⟩
  have hz2 := hb2.size
  have hw2 : Below w.heap.size w w2 := chain hw1 hb2 (by omega)
  have Xz2 := hid (Xz1.out.mono hb2)
  have lz := hBz.lt
  have HBz := hid hBz
  clear hBz
  go_wp2_with (fail)
  go_loopg [14] N (fun q s1 wr => ∃ j : Nat, j + q = N ∧ s1 = .int .i64 (j : Int) ∧ Hid (Bx wr (w.heap.size) 28 #[.int .i64 0, .int .i64 0, .slice none 0 0]) ∧ Hid (Bx wr (w2.heap.size) 28 #[.int .i64 (N : Int), .int .i64 (N : Int), .slice (some ⟨gz, 0, none⟩) n n]) ∧ Hid (Bk wr gz 59 (tab n (unitP N j))) ∧ w2.heap.size + 1 ≤ wr.heap.size ∧ Below w.heap.size w wr)
  case atStart =>
    have R1 := Xz2.out
    refine ⟨0, by omega, rfl, (by show Bx _ _ _ _; (repeat' (first | (with_reducible assumption) | (with_reducible refine Bx.alloc ?_ _) | (with_reducible refine Bx.drew ?_) | (with_reducible refine Bx.drewN ?_ _) | (with_reducible refine Bx.mono ?_ (by assumption)) | (with_reducible refine Bx.badly ?_ (by assumption) (by omega)) | (with_reducible refine Bx.far ?_ (by (try simp only [World.size_alloc, World.size_drew]); omega)) | (with_reducible refine Bx.set ?_ rfl) | (with_reducible refine Bx.grown ?_ (by assumption) (by assumption))))), (by show Bx _ _ _ _; (repeat' (first | (with_reducible assumption) | (refine Bx.new (by first | (with_reducible rfl) | (simp; done))) | (with_reducible refine Bx.alloc ?_ _) | (with_reducible refine Bx.drew ?_) | (with_reducible refine Bx.drewN ?_ _) | (with_reducible refine Bx.mono ?_ (by assumption)) | (with_reducible refine Bx.badly ?_ (by assumption) (by omega)) | (with_reducible refine Bx.far ?_ (by (try simp only [World.size_alloc, World.size_drew]); omega)) | (with_reducible refine Bx.set ?_ rfl) | (with_reducible refine Bx.grown ?_ (by assumption) (by assumption))))), ?_, by simp, by (repeat' (first | (with_reducible exact Below.refl _ _) | (with_reducible assumption) | (with_reducible refine Below.alloc ?_ ?_ _) | (with_reducible refine Below.drew ?_) | (with_reducible refine below_drewN ?_ _) | (with_reducible refine Below.setCell ?_ ?_ _) | (with_reducible refine chain ?_ (by assumption) ?_) | omega | (simp; done) | (simp; omega)))⟩
    show Bk _ _ _ _
    rw [unitP_0]
    exact HBz.out.alloc _
  case round =>
    obtain ⟨j, hj, rfl, Xz, Xo, HG, hsz, hB⟩ := hrel
    clear Xz1 Xz2 HBz
    have cz0 := Xz.out.c 0 rfl
    have cz1 := Xz.out.c 1 rfl
    have cz2 := Xz.out.c 2 rfl
    have lz := Xz.out.lt
    have fz := Xz.out.f
    have co0 := Xo.out.c 0 rfl
    have co1 := Xo.out.c 1 rfl
    have co2 := Xo.out.c 2 rfl
    have lo := Xo.out.lt
    have fo := Xo.out.f
    cases gk with
    | zero =>
      obtain rfl : j = N := by omega
      have hBq := hB.size
      go_wp2_with (fail)
      refine bodyPost_ret (v := mt (j : Int) (j : Int) (some ⟨gz, 0, none⟩) n n true) (by first | (simp [results, Try.results87, go_sem, *]; done) | (simp (disch := (first | omega | (simp; done) | (simp; omega))) [results, Try.results87, go_sem, *]; done) | (simp only [results, Try.results87]; go_simp; done)) rfl ⟨gz, rfl, ?_, by omega, ?_⟩
      · (repeat' (first | exact HG.out | refine Bk.far ?_ (by show gz ≠ w.heap.size; omega) _))
      · (repeat' (first | (with_reducible exact Below.refl _ _) | (with_reducible assumption) | (with_reducible refine Below.alloc ?_ ?_ _) | (with_reducible refine Below.drew ?_) | (with_reducible refine below_drewN ?_ _) | (with_reducible refine Below.setCell ?_ ?_ _) | (with_reducible refine chain ?_ (by assumption) ?_) | omega | (simp; done) | (simp; omega)))
    | succ m =>
      have hlt : j < N := by omega
      have j1 : (j : Int) < (N : Int) := by omega
      obtain ⟨t, ht1, ht2, ht3, ht4⟩ := row_at HNN.out hlt
      have HT1 := hid ht1
      have HT2 := hid ht2
      have HT4 := hid ht4
      have hq : t + j < n := by omega
      have hBq := hB.size
      clear ht1 ht2 ht4
      go_wp2_with (fail)
      refine (rw_i (s := t) HT1.out HT2.out (by omega) (by omega) h1 (by omega)).mono ?_
      rintro ee w8 ⟨rfl, hb8⟩
      have hz8 := hb8.size
      have hG8 := hid (HG.out.mono hb8)
      have fr8 := hG8.out.fr
      obtain ⟨p0, p1, p2, p3, p4⟩ := hG8.out.cx (k := t + j) (tab_get hq)
      simp only [Nat.add_mul] at p0 p1 p2 p3 p4
      go_wp2_with (fail)
      go_roundg m
      case measure => omega
      case rel =>
        have R1 := Xz.out.mono hb8
        have R2 := Xo.out.mono hb8
        refine ⟨j + 1, by omega, by go_num, R1.far5 one5 (by omega), R2.far5 one5 (by omega), ?_, by (try simp only [World.size_setCell]); omega, ?_⟩
        · show Bk _ _ _ _
          have h1 := hG8.out.set (k := t + j) one5 (by rw [tab_len]; exact hq)
          rw [unitP_set (by rw [HT4.out]) hq, Nat.add_mul] at h1
          exact h1
        · exact set5_below (x := one5) (chain hB hb8 hBq) (by omega)

end Go.Proofs.Ytnjckeadcbfogaa
