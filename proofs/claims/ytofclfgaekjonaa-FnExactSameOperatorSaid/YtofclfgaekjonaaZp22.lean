/- MuI, Idn, Te4 -/
import Derived.Test.YtofclfgaekjonaaZp21
import Derived.Test.YtofclfgaekjonaaZp18
import Derived.Test.YtofclfgaekjonaaZp15
namespace Go.Proofs.Ytofclfgaekjonaa
open Go.RowKit RM
set_option linter.unusedVariables false
set_option linter.unusedSimpArgs false
attribute [local irreducible] World.setCell

set_option maxRecDepth 100000 in
set_option maxHeartbeats 4000000 in
theorem mu_i_t {ra ca cb : Nat} {g0 h0 n m cp cp' : Nat} {xs ys : List D5} {w : World} (hA : Rd w (some ⟨g0, 0, none⟩) xs) (hB : Rd w (some ⟨h0, 0, none⟩) ys) (hn : xs.length = n) (hm : ys.length = m) (hok : okM (ra : Int) (ca : Int) n xs = true) (hok2 : okM (ca : Int) (cb : Int) m ys = true) {N : Nat} (hN9 : N = ra * cb) (hc1 : n ≤ cp) (hc2 : cp ≤ 1048576) (hc3 : m ≤ cp') (hc4 : cp' ≤ 1048576) :
    Calls Try.prog 144 #[mv (ra : Int) (ca : Int) (some ⟨g0, 0, none⟩) n cp, mv (ca : Int) (cb : Int) (some ⟨h0, 0, none⟩) m cp'] w fun ee w' => IR w w' ee (ra : Int) (cb : Int) N (tab N (mmF ca cb xs ys)) (anyB N (mmG ca cb xs ys)) := by
  obtain ⟨hnn, a1, a2, a3, a4, a5⟩ := okM_nat2 hok
  obtain ⟨hmm, -, -, b3, b4, b5⟩ := okM_nat2 hok2
  have n32 : N ≤ 1024 := by rw [hN9]; exact Nat.mul_le_mul a2 b4
  have EN := hid hN9
  clear hN9
  have K1 := hid hc1
  have K2 := hid hc2
  have K3 := hid hc3
  have K4 := hid hc4
  clear hc1 hc2 hc3 hc4
  have HA := hid hA
  have HB := hid hB
  have HN := hid hn
  have HM := hid hm
  have HO := hid hok
  have HP := hid hok2
  have HNN := hid hnn
  have HMM := hid hmm
  clear hA hB hn hm hok hok2 hnn hmm
  have h0A : g0 < w.heap.size := by
    obtain ⟨x, hx⟩ : ∃ x, xs[0]? = some x := ⟨_, List.getElem?_eq_getElem (by rw [HN.out, HNN.out]; exact Nat.mul_pos (by omega) (by omega))⟩
    exact (HA.out.cx hx).lt
  have h0B : h0 < w.heap.size := by
    obtain ⟨x, hx⟩ : ∃ x, ys[0]? = some x := ⟨_, List.getElem?_eq_getElem (by rw [HM.out, HMM.out]; exact Nat.mul_pos (by omega) (by omega))⟩
    exact (HB.out.cx hx).lt
  go_enter Try.func144, Try.ntmps144
  go_wp2_with (fail)
  refine (vm_i_t (xs := xs) HO.out ?_ HN.out).mono ?_
  · exact HA.out.mono (by (repeat' (first | (with_reducible exact Below.refl _ _) | (with_reducible assumption) | (with_reducible refine Below.alloc ?_ ?_ _) | (with_reducible refine Below.drew ?_) | (with_reducible refine below_drewN ?_ _) | (with_reducible refine Below.setCell ?_ ?_ _) | (with_reducible refine chain ?_ (by assumption) ?_) | omega | (simp; done) | (simp; omega))))
  rintro ee w1 ⟨rfl, hb1⟩
  obtain ⟨hc1, hf1, _⟩ := bcell hb1; have hz1 := hb1.size; (try simp at hz1); (try have hx10 : w.heap.size < w1.heap.size := (by omega)); (try have hx11 : w.heap.size + 1 < w1.heap.size := (by omega)); (try have hx12 : w.heap.size + 1 + 1 < w1.heap.size := (by omega)); (try have hx13 : w.heap.size + 1 + 1 + 1 < w1.heap.size := (by omega))
  have Xa1 : Hid (Bx w1 (w.heap.size) 30 #[.int .i64 (ra : Int), .int .i64 (ca : Int), .slice (some ⟨g0, 0, none⟩) n cp]) := by show Bx _ _ _ _; (repeat' (first | (with_reducible assumption) | (refine Bx.new (by first | (with_reducible rfl) | (simp; done))) | (with_reducible refine Bx.alloc ?_ _) | (with_reducible refine Bx.drew ?_) | (with_reducible refine Bx.drewN ?_ _) | (with_reducible refine Bx.mono ?_ (by assumption)) | (with_reducible refine Bx.badly ?_ (by assumption) (by omega)) | (with_reducible refine Bx.far ?_ (by (try simp only [World.size_alloc, World.size_drew]); omega)) | (with_reducible refine Bx.set ?_ rfl) | (with_reducible refine Bx.grown ?_ (by assumption) (by assumption))))
  have Xb1 : Hid (Bx w1 (w.heap.size + 1) 30 #[.int .i64 (ca : Int), .int .i64 (cb : Int), .slice (some ⟨h0, 0, none⟩) m cp']) := by show Bx _ _ _ _; (repeat' (first | (with_reducible assumption) | (refine Bx.new (by first | (with_reducible rfl) | (simp; done))) | (with_reducible refine Bx.alloc ?_ _) | (with_reducible refine Bx.drew ?_) | (with_reducible refine Bx.drewN ?_ _) | (with_reducible refine Bx.mono ?_ (by assumption)) | (with_reducible refine Bx.badly ?_ (by assumption) (by omega)) | (with_reducible refine Bx.far ?_ (by (try simp only [World.size_alloc, World.size_drew]); omega)) | (with_reducible refine Bx.set ?_ rfl) | (with_reducible refine Bx.grown ?_ (by assumption) (by assumption))))
  have Xz1 : Hid (Bx w1 (w.heap.size + 1 + 1) 30 #[.int .i64 0, .int .i64 0, .slice none 0 0]) := by show Bx _ _ _ _; (repeat' (first | (with_reducible assumption) | (refine Bx.new (by first | (with_reducible rfl) | (simp; done))) | (with_reducible refine Bx.alloc ?_ _) | (with_reducible refine Bx.drew ?_) | (with_reducible refine Bx.drewN ?_ _) | (with_reducible refine Bx.mono ?_ (by assumption)) | (with_reducible refine Bx.badly ?_ (by assumption) (by omega)) | (with_reducible refine Bx.far ?_ (by (try simp only [World.size_alloc, World.size_drew]); omega)) | (with_reducible refine Bx.set ?_ rfl) | (with_reducible refine Bx.grown ?_ (by assumption) (by assumption))))
  have hw1 : Below w.heap.size w w1 := by (repeat' (first | (with_reducible exact Below.refl _ _) | (with_reducible assumption) | (with_reducible refine Below.alloc ?_ ?_ _) | (with_reducible refine Below.drew ?_) | (with_reducible refine below_drewN ?_ _) | (with_reducible refine Below.setCell ?_ ?_ _) | (with_reducible refine chain ?_ (by assumption) ?_) | omega | (simp; done) | (simp; omega)))
  go_wp2_with (fail)
  refine (vm_i_t (xs := ys) HP.out ?_ HM.out).mono ?_
  · exact HB.out.mono (by (repeat' (first | (with_reducible exact Below.refl _ _) | (with_reducible assumption) | (with_reducible refine Below.alloc ?_ ?_ _) | (with_reducible refine Below.drew ?_) | (with_reducible refine below_drewN ?_ _) | (with_reducible refine Below.setCell ?_ ?_ _) | (with_reducible refine chain ?_ (by assumption) ?_) | omega | (simp; done) | (simp; omega))))
  rintro ee w2 ⟨rfl, hb2⟩
  have hz2 := hb2.size
  have hw2 : Below w.heap.size w w2 := chain hw1 hb2 hw1.size
  have Ya2 := hid (Xa1.out.mono hb2)
  have ca0 := Ya2.out.c 0 rfl
  have ca1 := Ya2.out.c 1 rfl
  have ca2 := Ya2.out.c 2 rfl
  have fa := Ya2.out.f
  have la := Ya2.out.lt
  have Yb2 := hid (Xb1.out.mono hb2)
  have cb0 := Yb2.out.c 0 rfl
  have cb1 := Yb2.out.c 1 rfl
  have cb2 := Yb2.out.c 2 rfl
  have fb := Yb2.out.f
  have lb := Yb2.out.lt
  have Yz2 := hid (Xz1.out.mono hb2)
  have cz0 := Yz2.out.c 0 rfl
  have cz1 := Yz2.out.c 1 rfl
  have cz2 := Yz2.out.c 2 rfl
  have fz := Yz2.out.f
  have lz := Yz2.out.lt
  clear Xa1 Xb1 Xz1
  have hBq := hw2.size
  go_wp2_with (fail)
  refine (pr_i (xs := xs) (ys := ys) (N := N) ?_ ?_ HN.out HM.out (okM_iff.1 HO.out).2.2.2 (okM_iff.1 HP.out).2.2.2 HNN.out HMM.out a1 a2 a3 a4 b3 b4 EN.out K1.out K2.out K3.out (by have h3 := K3.out; have h4 := K4.out; omega)).mono ?_
  · exact HA.out.mono hw2
  · exact HB.out.mono hw2
  rintro ee w3 ⟨m1, m2, hb3⟩
  have hz3 := hb3.size
  have hB3 : Below w.heap.size w w3 := chain hw2 hb3 hw2.size
  have Xz := hid (Yz2.out.mono hb3)
  have M1 := hid m1
  have M2 := hid m2
  clear hb3 m1 m2 Ya2 Yb2 Yz2 ca0 ca1 ca2 cb0 cb1 cb2 cz0 cz1 cz2 fa la fb lb fz lz
  have cz0 := Xz.out.c 0 rfl
  have cz1 := Xz.out.c 1 rfl
  have cz2 := Xz.out.c 2 rfl
  have fz := Xz.out.f
  have lz := Xz.out.lt
  cases hany : anyB N (mmG ca cb xs ys)
  · obtain ⟨g, rfl, hK, hg⟩ := M2.out hany
    have HK := hid hK
    have hgl := hK.lt
    clear hK M1 M2
    go_wp2_with (fail)
    refine bodyPost_ret (v := mt (ra : Int) (cb : Int) (some ⟨g, 0, none⟩) N N true) (by simp only [results, Try.results144]; go_simp; done) rfl ⟨fun h => (by rw [hany] at h; cases h), fun _ => ⟨g, rfl, ?_, ?_⟩, ?_⟩
    · show Bk _ _ _ _
      (repeat' (first | exact HK.out | refine Bk.far ?_ (by show g ≠ w.heap.size + 1 + 1; omega) _))
    · omega
    · (repeat' (first | (with_reducible exact Below.refl _ _) | (with_reducible assumption) | (with_reducible refine Below.alloc ?_ ?_ _) | (with_reducible refine Below.drew ?_) | (with_reducible refine below_drewN ?_ _) | (with_reducible refine Below.setCell ?_ ?_ _) | (with_reducible refine chain ?_ (by assumption) ?_) | omega | (simp; done) | (simp; omega)))
  · obtain rfl := M1.out hany
    clear M1 M2
    go_wp2_with (fail)
    refine bodyPost_ret (v := mt 0 0 none 0 0 false) (by simp only [results, Try.results144]; go_simp; done) rfl ⟨fun _ => rfl, fun h => (by rw [hany] at h; cases h), ?_⟩
    (repeat' (first | (with_reducible exact Below.refl _ _) | (with_reducible assumption) | (with_reducible refine Below.alloc ?_ ?_ _) | (with_reducible refine Below.drew ?_) | (with_reducible refine below_drewN ?_ _) | (with_reducible refine Below.setCell ?_ ?_ _) | (with_reducible refine chain ?_ (by assumption) ?_) | omega | (simp; done) | (simp; omega)))

end Go.Proofs.Ytofclfgaekjonaa
namespace Go.Proofs.Ytofclfgaekjonaa
open Go.RowKit RM
set_option linter.unusedVariables false
set_option linter.unusedSimpArgs false
attribute [local irreducible] World.setCell

/-- the unit matrix, as far as its first j rows are written -/
def unitP (N j q : Nat) : D5 := if anyB j (fun i => decide (q = i * N + i)) then one5 else z5
theorem unitP_0 (N n : Nat) : tab n (unitP N 0) = List.replicate n z5 := by
  rw [tab_repl]; exact tab_congr (fun q _ => by unfold unitP; rw [anyB_0]; rfl)
theorem unitP_set {N n j q : Nat} (hq : q = j * N + j) (hn : q < n) : (tab n (unitP N j)).set q one5 = tab n (unitP N (j + 1)) := by
  rw [tab_set hn]
  refine tab_congr (fun p _ => ?_)
  unfold unitP
  rw [anyB_succ]
  by_cases e : p = q
  · subst e; rw [if_pos rfl, if_pos (by simp [hq])]
  · rw [if_neg e, show decide (p = j * N + j) = false from decide_eq_false (by omega), Bool.or_false]
theorem unit_ok {N n : Nat} (j : Nat) : allB (tab n (unitP N j)) = true := by
  unfold allB tab
  rw [List.all_eq_true]; intro x hx
  obtain ⟨q, _, rfl⟩ := List.mem_map.1 hx
  unfold unitP; split
  · exact one5_ok
  · exact z5_ok

set_option maxRecDepth 100000 in
set_option maxHeartbeats 2000000 in
theorem tn0 (w : World) : Calls Try.prog 161 #[rg 1 0 0 0, .int .i64 0] w fun ee w' => ee = .returned (rg 1 0 0 0) ∧ Below w.heap.size w w' := by
  go_enter Try.func161, Try.ntmps161
  go_wp2_with (fail)
  go_rounds 1
  refine bodyPost_ret (v := rg 1 0 0 0) (by first | (simp [results, Try.results161, go_sem, *]; done) | (simp (disch := (first | omega | (simp; done) | (simp; omega))) [results, Try.results161, go_sem, *]; done) | (simp only [results, Try.results161]; go_simp; done)) rfl ⟨rfl, ?_⟩
  (repeat' (first | (with_reducible exact Below.refl _ _) | (with_reducible assumption) | (with_reducible refine Below.alloc ?_ ?_ _) | (with_reducible refine Below.drew ?_) | (with_reducible refine below_drewN ?_ _) | (with_reducible refine Below.setCell ?_ ?_ _) | (with_reducible refine chain ?_ (by assumption) ?_) | omega | (simp; done) | (simp; omega)))

set_option maxRecDepth 100000 in
set_option maxHeartbeats 2000000 in
theorem pw0 (w : World) : Calls Try.prog 129 #[.int .i64 0] w fun ee w' => ee = .returned (dy 1 0 0 0 0) ∧ Below w.heap.size w w' := by
  go_enter Try.func129, Try.ntmps129
  go_wp2_with (fail)
  refine (tn0 _).mono ?_
  rintro ee w1 ⟨rfl, hb1⟩
  obtain ⟨hc1, hf1, _⟩ := bcell hb1; have hz1 := hb1.size; (try simp at hz1); (try have hx10 : w.heap.size < w1.heap.size := (by omega)); (try have hx11 : w.heap.size + 1 < w1.heap.size := (by omega)); (try have hx12 : w.heap.size + 1 + 1 < w1.heap.size := (by omega)); (try have hx13 : w.heap.size + 1 + 1 + 1 < w1.heap.size := (by omega))
  go_wp2_with (fail)
  refine bodyPost_ret (v := dy 1 0 0 0 0) (by first | (simp [results, Try.results129, go_sem, *]; done) | (simp (disch := (first | omega | (simp; done) | (simp; omega))) [results, Try.results129, go_sem, *]; done) | (simp only [results, Try.results129]; go_simp; done)) rfl ⟨rfl, ?_⟩
  (repeat' (first | (with_reducible exact Below.refl _ _) | (with_reducible assumption) | (with_reducible refine Below.alloc ?_ ?_ _) | (with_reducible refine Below.drew ?_) | (with_reducible refine below_drewN ?_ _) | (with_reducible refine Below.setCell ?_ ?_ _) | (with_reducible refine chain ?_ (by assumption) ?_) | omega | (simp; done) | (simp; omega)))

set_option maxRecDepth 100000 in
set_option maxHeartbeats 4000000 in
theorem unit_s {N n : Nat} {w : World} (hn : n = N * N) (h1 : 1 ≤ N) (h2 : N ≤ 32) (h5 : n ≤ 1024) :
    Calls Try.prog 115 #[.int .i64 (N : Int)] w fun ee w' => ee = .returned (mv (N : Int) (N : Int) (some ⟨w.heap.size + 1, 0, none⟩) n n) ∧ Bk w' (w.heap.size + 1) 99 (tab n (unitP N N)) ∧ Below w.heap.size w w' := by
  have hmk := mkD n (by omega)
  have e1 : (N : Int) * (N : Int) = (n : Int) := by rw [hn]; simp
  have e2 : IntKind.i64.wrap (n : Int) = (n : Int) := IntWalk.i64_in _ (by omega)
  have HNN := hid hn
  clear hn
  go_enter Try.func115, Try.ntmps115
  go_wp2_with (fail)
  go_loopg [4] N (fun q s1 wr => ∃ j : Nat, j + q = N ∧ s1 = .int .i64 (j : Int) ∧ Hid (Bx wr (w.heap.size) 30 #[.int .i64 0, .int .i64 0, .slice none 0 0]) ∧ Hid (Bx wr (w.heap.size + 1 + 1) 30 #[.int .i64 (N : Int), .int .i64 (N : Int), .slice (some ⟨w.heap.size + 1, 0, none⟩) n n]) ∧ Hid (Bk wr (w.heap.size + 1) 99 (tab n (unitP N j))) ∧ w.heap.size + 1 + 1 + 1 ≤ wr.heap.size ∧ Below w.heap.size w wr)
  case atStart =>
    refine ⟨0, by omega, rfl, (by show Bx _ _ _ _; (repeat' (first | (with_reducible assumption) | (refine Bx.new (by first | (with_reducible rfl) | (simp; done))) | (with_reducible refine Bx.alloc ?_ _) | (with_reducible refine Bx.drew ?_) | (with_reducible refine Bx.drewN ?_ _) | (with_reducible refine Bx.mono ?_ (by assumption)) | (with_reducible refine Bx.badly ?_ (by assumption) (by omega)) | (with_reducible refine Bx.far ?_ (by (try simp only [World.size_alloc, World.size_drew]); omega)) | (with_reducible refine Bx.set ?_ rfl) | (with_reducible refine Bx.grown ?_ (by assumption) (by assumption))))), (by show Bx _ _ _ _; (repeat' (first | (with_reducible assumption) | (refine Bx.new (by first | (with_reducible rfl) | (simp; done))) | (with_reducible refine Bx.alloc ?_ _) | (with_reducible refine Bx.drew ?_) | (with_reducible refine Bx.drewN ?_ _) | (with_reducible refine Bx.mono ?_ (by assumption)) | (with_reducible refine Bx.badly ?_ (by assumption) (by omega)) | (with_reducible refine Bx.far ?_ (by (try simp only [World.size_alloc, World.size_drew]); omega)) | (with_reducible refine Bx.set ?_ rfl) | (with_reducible refine Bx.grown ?_ (by assumption) (by assumption))))), ?_, by simp, by (repeat' (first | (with_reducible exact Below.refl _ _) | (with_reducible assumption) | (with_reducible refine Below.alloc ?_ ?_ _) | (with_reducible refine Below.drew ?_) | (with_reducible refine below_drewN ?_ _) | (with_reducible refine Below.setCell ?_ ?_ _) | (with_reducible refine chain ?_ (by assumption) ?_) | omega | (simp; done) | (simp; omega)))⟩
    show Bk _ _ _ _
    rw [unitP_0]
    (repeat' (first | exact Bk.made' (by simp) | refine Bk.alloc ?_ _ | refine Bk.far ?_ (by simp) _))
  case round =>
    obtain ⟨j, hj, rfl, Xz, Xo, HG, hsz, hB⟩ := hrel
    have cz0 := Xz.out.c 0 rfl
    have cz1 := Xz.out.c 1 rfl
    have cz2 := Xz.out.c 2 rfl
    have lz := Xz.out.lt
    have fz := Xz.out.f
    have co0 := Xo.out.c 0 rfl
    have co1 := Xo.out.c 1 rfl
    have co2 := Xo.out.c 2 rfl
    have lo := Xo.out.lt
    have fo := Xo.out.f
    cases gk with
    | zero =>
      obtain rfl : j = N := by omega
      have hBq := hB.size
      go_wp2_with (fail)
      refine bodyPost_ret (v := mv (j : Int) (j : Int) (some ⟨w.heap.size + 1, 0, none⟩) n n) (by first | (simp [results, Try.results115, go_sem, *]; done) | (simp (disch := (first | omega | (simp; done) | (simp; omega))) [results, Try.results115, go_sem, *]; done) | (simp only [results, Try.results115]; go_simp; done)) rfl ⟨rfl, ?_, ?_⟩
      · (repeat' (first | exact HG.out | refine Bk.far ?_ (by show w.heap.size + 1 ≠ w.heap.size; omega) _))
      · (repeat' (first | (with_reducible exact Below.refl _ _) | (with_reducible assumption) | (with_reducible refine Below.alloc ?_ ?_ _) | (with_reducible refine Below.drew ?_) | (with_reducible refine below_drewN ?_ _) | (with_reducible refine Below.setCell ?_ ?_ _) | (with_reducible refine chain ?_ (by assumption) ?_) | omega | (simp; done) | (simp; omega)))
    | succ m =>
      have hlt : j < N := by omega
      have j1 : (j : Int) < (N : Int) := by omega
      obtain ⟨t, ht1, ht2, ht3, ht4⟩ := row_at HNN.out hlt
      obtain ⟨u, hu⟩ : ∃ u, u = t + j := ⟨_, rfl⟩
      have hq : u < n := by omega
      have HU : Hid (u = j * N + j) := by show u = _; rw [hu, ht4]
      have q2 : IntKind.i64.wrap (t : Int) = (t : Int) := IntWalk.i64_in _ (by omega)
      have q3 : IntKind.i64.wrap ((t : Int) + (j : Int)) = (u : Int) := by rw [hu, Int.natCast_add]; exact IntWalk.i64_in _ (by omega)
      have q4 : (u : Int) < (n : Int) := by omega
      have hBq := hB.size
      clear hu ht2 ht4
      go_wp2_with (fail)
      have yco1 : wr.drew.cell? ⟨w.heap.size + 1 + 1, 1, none⟩ = some (.int .i64 (N : Int)) := co1
      have yco2 : wr.drew.cell? ⟨w.heap.size + 1 + 1, 2, none⟩ = some (.slice (some ⟨w.heap.size + 1, 0, none⟩) n n) := co2
      refine wp_region_x (fun w' => w'.cell? ⟨w.heap.size + 1 + 1, 1, none⟩ = some (.int .i64 (N : Int)) ∧ w'.cell? ⟨w.heap.size + 1 + 1, 2, none⟩ = some (.slice (some ⟨w.heap.size + 1, 0, none⟩) n n)) 9 (by kernel_rfl) ⟨yco1, yco2⟩ (fun hS0 => ?_)
      refine wpAnyX_take (i := 0) (oi := _) (v := ?_) rfl (by kernel_rfl) (by kernel_rfl) (by kernel_rfl) (by kernel_rfl) (fun _ _ _ h => h) (Or.inl ⟨by rfl, ?_⟩) hS0 ?_
      rotate_left 1
      · (intro w hSw; (try dsimp only at hSw); go_simp; (try with_reducible rfl))
      try simp only [Act.put, List.setIfInBounds_toArray, List.set_cons_zero, List.set_cons_succ]
      refine wpAnyX_take (i := 1) (oi := _) (v := ?_) rfl (by kernel_rfl) (by kernel_rfl) (by kernel_rfl) (by kernel_rfl) (fun _ _ _ h => h) (Or.inl ⟨by rfl, ?_⟩) hS0 ?_
      rotate_left 1
      · (intro w hSw; (try dsimp only at hSw); go_simp; (try with_reducible rfl))
      try simp only [Act.put, List.setIfInBounds_toArray, List.set_cons_zero, List.set_cons_succ]
      refine wpAnyX_take (i := 2) (oi := _) (v := ?_) rfl (by kernel_rfl) (by kernel_rfl) (by kernel_rfl) (by kernel_rfl) (fun _ _ _ h => h) (Or.inl ⟨by rfl, ?_⟩) hS0 ?_
      rotate_left 1
      · (intro w hSw; (try dsimp only at hSw); go_simp; (try with_reducible rfl))
      try simp only [Act.put, List.setIfInBounds_toArray, List.set_cons_zero, List.set_cons_succ]
      refine wpAnyX_take (i := 3) (oi := _) (v := ?_) rfl (by kernel_rfl) (by kernel_rfl) (by kernel_rfl) (by kernel_rfl) (fun _ _ _ h => h) (Or.inl ⟨by rfl, ?_⟩) hS0 ?_
      rotate_left 1
      · (intro w hSw; (try dsimp only at hSw); go_simp; (try with_reducible rfl))
      try simp only [Act.put, List.setIfInBounds_toArray, List.set_cons_zero, List.set_cons_succ]
      refine wpAnyX_take (i := 4) (oi := _) (v := ?_) rfl (by kernel_rfl) (by kernel_rfl) (by kernel_rfl) (by kernel_rfl) (fun _ _ _ h => h) (Or.inl ⟨by rfl, ?_⟩) hS0 ?_
      rotate_left 1
      · (intro w hSw; (try dsimp only at hSw); go_simp; (try with_reducible rfl))
      try simp only [Act.put, List.setIfInBounds_toArray, List.set_cons_zero, List.set_cons_succ]
      refine wpAnyX_take (i := 5) (oi := _) (v := ?_) rfl (by kernel_rfl) (by kernel_rfl) (by kernel_rfl) (by kernel_rfl) (fun _ _ _ h => h) (Or.inl ⟨by rfl, ?_⟩) hS0 ?_
      rotate_left 1
      · (intro w hSw; (try dsimp only at hSw); go_simp; (try with_reducible rfl))
      try simp only [Act.put, List.setIfInBounds_toArray, List.set_cons_zero, List.set_cons_succ]
      refine wpAnyX_take (i := 6) (oi := _) (v := ?_) rfl (by kernel_rfl) (by kernel_rfl) (by kernel_rfl) (by kernel_rfl) (fun _ _ _ h => h) (Or.inl ⟨by rfl, ?_⟩) hS0 ?_
      rotate_left 1
      · (intro w hSw; (try dsimp only at hSw); go_simp; (try with_reducible rfl))
      try simp only [Act.put, List.setIfInBounds_toArray, List.set_cons_zero, List.set_cons_succ]
      refine wpAnyX_one (i := 7) (o := _) rfl (by kernel_rfl) (fun K hK => ?_)
      go_simp
      refine (pw0 _).mono ?_
      rintro ee w8 ⟨rfl, hb8⟩
      have hb9 : Below wr.heap.size wr w8 := ⟨hb8.os, hb8.tape, hb8.output, hb8.size, hb8.block⟩
      refine hK.out _ _ (fun _ => ?_) (fun hS1 => ?_)
      · exact ⟨kc hb8 (hS0.1), kc hb8 (hS0.2)⟩
      clear hK K
      have hS1 := hS1 (by decide)
      try simp only [Act.put, List.setIfInBounds_toArray, List.set_cons_zero, List.set_cons_succ]
      refine wpAnyX_take (i := 8) (oi := _) (v := ?_) rfl (by kernel_rfl) (by kernel_rfl) (by kernel_rfl) (by kernel_rfl) (fun _ _ _ h => h) (Or.inl ⟨by rfl, ?_⟩) hS1 ?_
      rotate_left 1
      · (intro w hSw; (try dsimp only at hSw); go_simp; (try with_reducible rfl))
      try simp only [Act.put, List.setIfInBounds_toArray, List.set_cons_zero, List.set_cons_succ]
      refine wpAnyX_one (i := 9) (o := _) rfl (by kernel_rfl) (fun K hK => ?_)
      have hG8 := hid (HG.out.mono hb9)
      have fr8 := hG8.out.fr
      obtain ⟨p0, p1, p2, p3, p4⟩ := hG8.out.cx (k := u) (tab_get hq)
      go_simp
      refine hK.out _ _ (fun h => absurd rfl h) (fun _ => ?_)
      clear hK K
      try simp only [Act.put, List.setIfInBounds_toArray, List.set_cons_zero, List.set_cons_succ]
      refine wpAnyX_done (by kernel_rfl) ?_ _
      go_wp2_with (fail)
      go_roundg m
      case measure => omega
      case rel =>
        have hz8 := hb9.size
        have R1 := Xz.out.mono hb9
        have R2 := Xo.out.mono hb9
        refine ⟨j + 1, by omega, by go_num, R1.far5 one5 (by omega), R2.far5 one5 (by omega), ?_, by (try simp only [World.size_setCell]); omega, ?_⟩
        · show Bk _ _ _ _
          have h1 := hG8.out.set (k := u) one5 (by rw [tab_len]; exact hq)
          rw [unitP_set HU.out hq] at h1
          exact h1
        · exact set5_below (x := one5) (chain hB hb9 hBq) (by omega)

set_option maxRecDepth 100000 in
set_option maxHeartbeats 4000000 in
theorem id_i_t {N n : Nat} {w : World} (hd : dimB (N : Int) = true) (hn : n = N * N) (h1 : 1 ≤ N) (h2 : N ≤ 32) (h5 : n ≤ 1024) : Calls Try.prog 119 #[.int .i64 (N : Int)] w fun ee w' => ∃ g : Nat, ee = .returned (mt (N : Int) (N : Int) (some ⟨g, 0, none⟩) n n true) ∧ Bk w' g 99 (tab n (unitP N N)) ∧ w.heap.size ≤ g ∧ Below w.heap.size w w' := by
  have HD := hid hd
  have HNN := hid hn
  clear hd hn
  go_enter Try.func119, Try.ntmps119
  go_wp2_with (fail)
  refine (dm_i_t HD.out _).mono ?_
  rintro ee w1 ⟨rfl, hb1⟩
  obtain ⟨hc1, hf1, _⟩ := bcell hb1; have hz1 := hb1.size; (try simp at hz1); (try have hx10 : w.heap.size < w1.heap.size := (by omega)); (try have hx11 : w.heap.size + 1 < w1.heap.size := (by omega)); (try have hx12 : w.heap.size + 1 + 1 < w1.heap.size := (by omega)); (try have hx13 : w.heap.size + 1 + 1 + 1 < w1.heap.size := (by omega))
  have Xz1 : Hid (Bx w1 (w.heap.size) 30 #[.int .i64 0, .int .i64 0, .slice none 0 0]) := by show Bx _ _ _ _; (repeat' (first | (with_reducible assumption) | (refine Bx.new (by first | (with_reducible rfl) | (simp; done))) | (with_reducible refine Bx.alloc ?_ _) | (with_reducible refine Bx.drew ?_) | (with_reducible refine Bx.drewN ?_ _) | (with_reducible refine Bx.mono ?_ (by assumption)) | (with_reducible refine Bx.badly ?_ (by assumption) (by omega)) | (with_reducible refine Bx.far ?_ (by (try simp only [World.size_alloc, World.size_drew]); omega)) | (with_reducible refine Bx.set ?_ rfl) | (with_reducible refine Bx.grown ?_ (by assumption) (by assumption))))
  have hw1 : Below w.heap.size w w1 := by (repeat' (first | (with_reducible exact Below.refl _ _) | (with_reducible assumption) | (with_reducible refine Below.alloc ?_ ?_ _) | (with_reducible refine Below.drew ?_) | (with_reducible refine below_drewN ?_ _) | (with_reducible refine Below.setCell ?_ ?_ _) | (with_reducible refine chain ?_ (by assumption) ?_) | omega | (simp; done) | (simp; omega)))
  go_wp2_with (fail)
  refine (zm (r := N) (c := N) (n := n) (by rw [HNN.out]; simp) h5).mono ?_
  rintro ee w2 ⟨gz, rfl, hBz, hgz, hb2⟩
  have hz2 := hb2.size
  have hw2 : Below w.heap.size w w2 := chain hw1 hb2 (by omega)
  have Xz2 := hid (Xz1.out.mono hb2)
  have lz := hBz.lt
  have HBz := hid hBz
  clear hBz
  go_wp2_with (fail)
  go_loopg [14] N (fun q s1 wr => ∃ j : Nat, j + q = N ∧ s1 = .int .i64 (j : Int) ∧ Hid (Bx wr (w.heap.size) 30 #[.int .i64 0, .int .i64 0, .slice none 0 0]) ∧ Hid (Bx wr (w2.heap.size) 30 #[.int .i64 (N : Int), .int .i64 (N : Int), .slice (some ⟨gz, 0, none⟩) n n]) ∧ Hid (Bk wr gz 99 (tab n (unitP N j))) ∧ w2.heap.size + 1 ≤ wr.heap.size ∧ Below w.heap.size w wr)
  case atStart =>
    have R1 := Xz2.out
    refine ⟨0, by omega, rfl, (by show Bx _ _ _ _; (repeat' (first | (with_reducible assumption) | (with_reducible refine Bx.alloc ?_ _) | (with_reducible refine Bx.drew ?_) | (with_reducible refine Bx.drewN ?_ _) | (with_reducible refine Bx.mono ?_ (by assumption)) | (with_reducible refine Bx.badly ?_ (by assumption) (by omega)) | (with_reducible refine Bx.far ?_ (by (try simp only [World.size_alloc, World.size_drew]); omega)) | (with_reducible refine Bx.set ?_ rfl) | (with_reducible refine Bx.grown ?_ (by assumption) (by assumption))))), (by show Bx _ _ _ _; (repeat' (first | (with_reducible assumption) | (refine Bx.new (by first | (with_reducible rfl) | (simp; done))) | (with_reducible refine Bx.alloc ?_ _) | (with_reducible refine Bx.drew ?_) | (with_reducible refine Bx.drewN ?_ _) | (with_reducible refine Bx.mono ?_ (by assumption)) | (with_reducible refine Bx.badly ?_ (by assumption) (by omega)) | (with_reducible refine Bx.far ?_ (by (try simp only [World.size_alloc, World.size_drew]); omega)) | (with_reducible refine Bx.set ?_ rfl) | (with_reducible refine Bx.grown ?_ (by assumption) (by assumption))))), ?_, by simp, by (repeat' (first | (with_reducible exact Below.refl _ _) | (with_reducible assumption) | (with_reducible refine Below.alloc ?_ ?_ _) | (with_reducible refine Below.drew ?_) | (with_reducible refine below_drewN ?_ _) | (with_reducible refine Below.setCell ?_ ?_ _) | (with_reducible refine chain ?_ (by assumption) ?_) | omega | (simp; done) | (simp; omega)))⟩
    show Bk _ _ _ _
    rw [unitP_0]
    exact HBz.out.alloc _
  case round =>
    obtain ⟨j, hj, rfl, Xz, Xo, HG, hsz, hB⟩ := hrel
    clear Xz1 Xz2 HBz
    have cz0 := Xz.out.c 0 rfl
    have cz1 := Xz.out.c 1 rfl
    have cz2 := Xz.out.c 2 rfl
    have lz := Xz.out.lt
    have fz := Xz.out.f
    have co0 := Xo.out.c 0 rfl
    have co1 := Xo.out.c 1 rfl
    have co2 := Xo.out.c 2 rfl
    have lo := Xo.out.lt
    have fo := Xo.out.f
    cases gk with
    | zero =>
      obtain rfl : j = N := by omega
      have hBq := hB.size
      go_wp2_with (fail)
      refine bodyPost_ret (v := mt (j : Int) (j : Int) (some ⟨gz, 0, none⟩) n n true) (by first | (simp [results, Try.results119, go_sem, *]; done) | (simp (disch := (first | omega | (simp; done) | (simp; omega))) [results, Try.results119, go_sem, *]; done) | (simp only [results, Try.results119]; go_simp; done)) rfl ⟨gz, rfl, ?_, by omega, ?_⟩
      · (repeat' (first | exact HG.out | refine Bk.far ?_ (by show gz ≠ w.heap.size; omega) _))
      · (repeat' (first | (with_reducible exact Below.refl _ _) | (with_reducible assumption) | (with_reducible refine Below.alloc ?_ ?_ _) | (with_reducible refine Below.drew ?_) | (with_reducible refine below_drewN ?_ _) | (with_reducible refine Below.setCell ?_ ?_ _) | (with_reducible refine chain ?_ (by assumption) ?_) | omega | (simp; done) | (simp; omega)))
    | succ m =>
      have hlt : j < N := by omega
      have j1 : (j : Int) < (N : Int) := by omega
      obtain ⟨t, ht1, ht2, ht3, ht4⟩ := row_at HNN.out hlt
      have HT1 := hid ht1
      have HT2 := hid ht2
      have HT4 := hid ht4
      have hq : t + j < n := by omega
      have hBq := hB.size
      clear ht1 ht2 ht4
      go_wp2_with (fail)
      refine (rw_i (s := t) HT1.out HT2.out (by omega) (by omega) h1 (by omega)).mono ?_
      rintro ee w8 ⟨rfl, hb8⟩
      have hz8 := hb8.size
      have hG8 := hid (HG.out.mono hb8)
      have fr8 := hG8.out.fr
      obtain ⟨p0, p1, p2, p3, p4⟩ := hG8.out.cx (k := t + j) (tab_get hq)
      simp only [Nat.add_mul] at p0 p1 p2 p3 p4
      go_wp2_with (fail)
      go_roundg m
      case measure => omega
      case rel =>
        have R1 := Xz.out.mono hb8
        have R2 := Xo.out.mono hb8
        refine ⟨j + 1, by omega, by go_num, R1.far5 one5 (by omega), R2.far5 one5 (by omega), ?_, by (try simp only [World.size_setCell]); omega, ?_⟩
        · show Bk _ _ _ _
          have h1 := hG8.out.set (k := t + j) one5 (by rw [tab_len]; exact hq)
          rw [unitP_set (by rw [HT4.out]) hq, Nat.add_mul] at h1
          exact h1
        · exact set5_below (x := one5) (chain hB hb8 hBq) (by omega)

end Go.Proofs.Ytofclfgaekjonaa
namespace Go.Proofs.Ytofclfgaekjonaa
open Go.RowKit RM
set_option linter.unusedVariables false
set_option linter.unusedSimpArgs false
attribute [local irreducible] World.setCell

set_option maxRecDepth 100000 in
set_option maxHeartbeats 4000000 in
theorem te_10 {w : World} :
    Calls Try.prog 197 #[.int .i64 10] w fun ee w' => ∃ g : Nat, ee = .returned (.slice (some ⟨g, 0, none⟩) 1 1) ∧ Bx w' g 210 #[.func (.func 211) #[] #[]] ∧ w.heap.size ≤ g ∧ Below w.heap.size w w' := by
  go_enter Try.func197, Try.ntmps197
  go_wp2_with (fail)
  go_ret
  refine ⟨w.heap.size + 1 + 1 + 1 + 1 + 1 + 1 + 1 + 1 + 1, rfl, ?_, by omega, ?_⟩
  · (repeat' (first | (with_reducible assumption) | (refine Bx.new (by first | (with_reducible rfl) | (simp; done))) | (with_reducible refine Bx.alloc ?_ _) | (with_reducible refine Bx.drew ?_) | (with_reducible refine Bx.drewN ?_ _) | (with_reducible refine Bx.mono ?_ (by assumption)) | (with_reducible refine Bx.badly ?_ (by assumption) (by omega)) | (with_reducible refine Bx.far ?_ (by (try simp only [World.size_alloc, World.size_drew]); omega)) | (with_reducible refine Bx.set ?_ rfl) | (with_reducible refine Bx.grown ?_ (by assumption) (by assumption))))
  · (repeat' (first | (with_reducible exact Below.refl _ _) | (with_reducible assumption) | (with_reducible refine Below.alloc ?_ ?_ _) | (with_reducible refine Below.drew ?_) | (with_reducible refine below_drewN ?_ _) | (with_reducible refine Below.setCell ?_ ?_ _) | (with_reducible refine chain ?_ (by assumption) ?_) | omega | (simp; done) | (simp; omega)))

set_option maxRecDepth 100000 in
set_option maxHeartbeats 4000000 in
theorem te_11 {w : World} :
    Calls Try.prog 197 #[.int .i64 11] w fun ee w' => ∃ g : Nat, ee = .returned (.slice (some ⟨g, 0, none⟩) 1 1) ∧ Bx w' g 210 #[.func (.func 212) #[] #[]] ∧ w.heap.size ≤ g ∧ Below w.heap.size w w' := by
  go_enter Try.func197, Try.ntmps197
  go_wp2_with (fail)
  go_ret
  refine ⟨w.heap.size + 1 + 1 + 1 + 1 + 1 + 1 + 1 + 1 + 1 + 1, rfl, ?_, by omega, ?_⟩
  · (repeat' (first | (with_reducible assumption) | (refine Bx.new (by first | (with_reducible rfl) | (simp; done))) | (with_reducible refine Bx.alloc ?_ _) | (with_reducible refine Bx.drew ?_) | (with_reducible refine Bx.drewN ?_ _) | (with_reducible refine Bx.mono ?_ (by assumption)) | (with_reducible refine Bx.badly ?_ (by assumption) (by omega)) | (with_reducible refine Bx.far ?_ (by (try simp only [World.size_alloc, World.size_drew]); omega)) | (with_reducible refine Bx.set ?_ rfl) | (with_reducible refine Bx.grown ?_ (by assumption) (by assumption))))
  · (repeat' (first | (with_reducible exact Below.refl _ _) | (with_reducible assumption) | (with_reducible refine Below.alloc ?_ ?_ _) | (with_reducible refine Below.drew ?_) | (with_reducible refine below_drewN ?_ _) | (with_reducible refine Below.setCell ?_ ?_ _) | (with_reducible refine chain ?_ (by assumption) ?_) | omega | (simp; done) | (simp; omega)))

set_option maxRecDepth 100000 in
set_option maxHeartbeats 4000000 in
theorem te_12 {w : World} :
    Calls Try.prog 197 #[.int .i64 12] w fun ee w' => ∃ g : Nat, ee = .returned (.slice (some ⟨g, 0, none⟩) 1 1) ∧ Bx w' g 210 #[.func (.func 213) #[] #[]] ∧ w.heap.size ≤ g ∧ Below w.heap.size w w' := by
  go_enter Try.func197, Try.ntmps197
  go_wp2_with (fail)
  go_ret
  refine ⟨w.heap.size + 1 + 1 + 1 + 1 + 1 + 1 + 1 + 1 + 1 + 1 + 1, rfl, ?_, by omega, ?_⟩
  · (repeat' (first | (with_reducible assumption) | (refine Bx.new (by first | (with_reducible rfl) | (simp; done))) | (with_reducible refine Bx.alloc ?_ _) | (with_reducible refine Bx.drew ?_) | (with_reducible refine Bx.drewN ?_ _) | (with_reducible refine Bx.mono ?_ (by assumption)) | (with_reducible refine Bx.badly ?_ (by assumption) (by omega)) | (with_reducible refine Bx.far ?_ (by (try simp only [World.size_alloc, World.size_drew]); omega)) | (with_reducible refine Bx.set ?_ rfl) | (with_reducible refine Bx.grown ?_ (by assumption) (by assumption))))
  · (repeat' (first | (with_reducible exact Below.refl _ _) | (with_reducible assumption) | (with_reducible refine Below.alloc ?_ ?_ _) | (with_reducible refine Below.drew ?_) | (with_reducible refine below_drewN ?_ _) | (with_reducible refine Below.setCell ?_ ?_ _) | (with_reducible refine chain ?_ (by assumption) ?_) | omega | (simp; done) | (simp; omega)))

end Go.Proofs.Ytofclfgaekjonaa
