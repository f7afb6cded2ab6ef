/- Kron: what the program answers. -/
import Derived.Test.YtncgccpkbneagaaZkr
namespace Go.Proofs.Ytncgccpkbneagaa
open Go.RowKit RM
set_option linter.unusedVariables false
set_option linter.unusedSimpArgs false
attribute [local irreducible] World.setCell

set_option maxRecDepth 100000 in
set_option maxHeartbeats 16000000 in
theorem kr_i_t {ra ca rb cb P Q : Nat} {g0 h0 n m cp cp' : Nat} {xs ys : List D5} {w : World} (hA : Rd w (some ⟨g0, 0, none⟩) xs) (hB : Rd w (some ⟨h0, 0, none⟩) ys) (hn : xs.length = n) (hm : ys.length = m) (hok : okM (ra : Int) (ca : Int) n xs = true) (hok2 : okM (rb : Int) (cb : Int) m ys = true) (hP : P = ra * rb) {N : Nat} (hd : dimB (P : Int) = true) (hQ : Q = ca * cb) (hd2 : dimB (Q : Int) = true) (hN9 : N = P * Q) (hc1 : n ≤ cp) (hc2 : cp ≤ 1048576) (hc3 : m ≤ cp') (hc4 : cp' ≤ 1048576) :
    Calls Try.prog 27 #[mv (ra : Int) (ca : Int) (some ⟨g0, 0, none⟩) n cp, mv (rb : Int) (cb : Int) (some ⟨h0, 0, none⟩) m cp'] w fun ee w' => IR w w' ee (P : Int) (Q : Int) N (tab N (krF Q rb cb ca xs ys)) (anyB N (krG Q rb cb ca xs ys)) := by
  obtain ⟨hnn, a1, a2, a3, a4, a5⟩ := okM_nat2 hok
  obtain ⟨hmm, b1, b2, b3, b4, b5⟩ := okM_nat2 hok2
  have pe : (ra : Int) * (rb : Int) = (P : Int) := by rw [hP]; simp
  have pb : P ≤ 32 * 32 := by rw [hP]; exact Nat.mul_le_mul a2 b2
  have pw : IntKind.i64.wrap (P : Int) = (P : Int) := IntWalk.i64_in _ (by omega)
  have qe : (ca : Int) * (cb : Int) = (Q : Int) := by rw [hQ]; simp
  have qb : Q ≤ 32 * 32 := by rw [hQ]; exact Nat.mul_le_mul a4 b4
  have qw : IntKind.i64.wrap (Q : Int) = (Q : Int) := IntWalk.i64_in _ (by omega)
  have p32 : 1 ≤ P ∧ P ≤ 32 := by have := dimB_cases hd; omega
  have q32 : 1 ≤ Q ∧ Q ≤ 32 := by have := dimB_cases hd2; omega
  have n32 : N ≤ 1024 := by rw [hN9]; exact Nat.mul_le_mul p32.2 q32.2
  have hs5 := size5
  have HS5 := hid hs5
  have HD := hid hd
  have HD2 := hid hd2
  have EQ := hid hQ
  have EN := hid hN9
  clear hd hd2 hQ hN9 hs5
  have HA := hid hA
  have HB := hid hB
  have HN := hid hn
  have HM := hid hm
  have HO := hid hok
  have HP := hid hok2
  have HNN := hid hnn
  have HMM := hid hmm
  have EP := hid hP
  clear hA hB hn hm hok hok2 hnn hmm hP
  have h0A : g0 < w.heap.size := by
    obtain ⟨x, hx⟩ : ∃ x, xs[0]? = some x := ⟨_, List.getElem?_eq_getElem (by rw [HN.out, HNN.out]; exact Nat.mul_pos (by omega) (by omega))⟩
    exact (HA.out.cx hx).lt
  have h0B : h0 < w.heap.size := by
    obtain ⟨x, hx⟩ : ∃ x, ys[0]? = some x := ⟨_, List.getElem?_eq_getElem (by rw [HM.out, HMM.out]; exact Nat.mul_pos (by omega) (by omega))⟩
    exact (HB.out.cx hx).lt
  go_enter Try.func27, Try.ntmps27
  go_wp2_with (fail)
  refine (vm_i_t (xs := xs) HO.out ?_ HN.out).mono ?_
  · exact HA.out.mono (by (repeat' (first | (with_reducible exact Below.refl _ _) | (with_reducible assumption) | (with_reducible refine Below.alloc ?_ ?_ _) | (with_reducible refine Below.drew ?_) | (with_reducible refine below_drewN ?_ _) | (with_reducible refine Below.setCell ?_ ?_ _) | (with_reducible refine chain ?_ (by assumption) ?_) | omega | (simp; done) | (simp; omega))))
  rintro ee w1 ⟨rfl, hb1⟩
  obtain ⟨hc1, hf1, _⟩ := bcell hb1; have hz1 := hb1.size; (try simp at hz1); (try have hx10 : w.heap.size < w1.heap.size := (by omega)); (try have hx11 : w.heap.size + 1 < w1.heap.size := (by omega)); (try have hx12 : w.heap.size + 1 + 1 < w1.heap.size := (by omega)); (try have hx13 : w.heap.size + 1 + 1 + 1 < w1.heap.size := (by omega))
  have Xa1 : Hid (Bx w1 (w.heap.size) 26 #[.int .i64 (ra : Int), .int .i64 (ca : Int), .slice (some ⟨g0, 0, none⟩) n cp]) := by show Bx _ _ _ _; (repeat' (first | (with_reducible assumption) | (refine Bx.new (by first | (with_reducible rfl) | (simp; done))) | (with_reducible refine Bx.alloc ?_ _) | (with_reducible refine Bx.drew ?_) | (with_reducible refine Bx.drewN ?_ _) | (with_reducible refine Bx.mono ?_ (by assumption)) | (with_reducible refine Bx.badly ?_ (by assumption) (by omega)) | (with_reducible refine Bx.far ?_ (by (try simp only [World.size_alloc, World.size_drew]); omega)) | (with_reducible refine Bx.set ?_ rfl) | (with_reducible refine Bx.grown ?_ (by assumption) (by assumption))))
  have Xb1 : Hid (Bx w1 (w.heap.size + 1) 26 #[.int .i64 (rb : Int), .int .i64 (cb : Int), .slice (some ⟨h0, 0, none⟩) m cp']) := by show Bx _ _ _ _; (repeat' (first | (with_reducible assumption) | (refine Bx.new (by first | (with_reducible rfl) | (simp; done))) | (with_reducible refine Bx.alloc ?_ _) | (with_reducible refine Bx.drew ?_) | (with_reducible refine Bx.drewN ?_ _) | (with_reducible refine Bx.mono ?_ (by assumption)) | (with_reducible refine Bx.badly ?_ (by assumption) (by omega)) | (with_reducible refine Bx.far ?_ (by (try simp only [World.size_alloc, World.size_drew]); omega)) | (with_reducible refine Bx.set ?_ rfl) | (with_reducible refine Bx.grown ?_ (by assumption) (by assumption))))
  have Xz1 : Hid (Bx w1 (w.heap.size + 1 + 1) 26 #[.int .i64 0, .int .i64 0, .slice none 0 0]) := by show Bx _ _ _ _; (repeat' (first | (with_reducible assumption) | (refine Bx.new (by first | (with_reducible rfl) | (simp; done))) | (with_reducible refine Bx.alloc ?_ _) | (with_reducible refine Bx.drew ?_) | (with_reducible refine Bx.drewN ?_ _) | (with_reducible refine Bx.mono ?_ (by assumption)) | (with_reducible refine Bx.badly ?_ (by assumption) (by omega)) | (with_reducible refine Bx.far ?_ (by (try simp only [World.size_alloc, World.size_drew]); omega)) | (with_reducible refine Bx.set ?_ rfl) | (with_reducible refine Bx.grown ?_ (by assumption) (by assumption))))
  have hw1 : Below w.heap.size w w1 := by (repeat' (first | (with_reducible exact Below.refl _ _) | (with_reducible assumption) | (with_reducible refine Below.alloc ?_ ?_ _) | (with_reducible refine Below.drew ?_) | (with_reducible refine below_drewN ?_ _) | (with_reducible refine Below.setCell ?_ ?_ _) | (with_reducible refine chain ?_ (by assumption) ?_) | omega | (simp; done) | (simp; omega)))
  go_wp2_with (fail)
  refine (vm_i_t (xs := ys) HP.out ?_ HM.out).mono ?_
  · exact HB.out.mono (by (repeat' (first | (with_reducible exact Below.refl _ _) | (with_reducible assumption) | (with_reducible refine Below.alloc ?_ ?_ _) | (with_reducible refine Below.drew ?_) | (with_reducible refine below_drewN ?_ _) | (with_reducible refine Below.setCell ?_ ?_ _) | (with_reducible refine chain ?_ (by assumption) ?_) | omega | (simp; done) | (simp; omega))))
  rintro ee w2 ⟨rfl, hb2⟩
  have hz2 := hb2.size
  have hw2 : Below w.heap.size w w2 := chain hw1 hb2 hw1.size
  have Ya2 := hid (Xa1.out.mono hb2)
  have ca0 := Ya2.out.c 0 rfl
  have ca1 := Ya2.out.c 1 rfl
  have ca2 := Ya2.out.c 2 rfl
  have fa := Ya2.out.f
  have la := Ya2.out.lt
  have Yb2 := hid (Xb1.out.mono hb2)
  have cb0 := Yb2.out.c 0 rfl
  have cb1 := Yb2.out.c 1 rfl
  have cb2 := Yb2.out.c 2 rfl
  have fb := Yb2.out.f
  have lb := Yb2.out.lt
  have Yz2 := hid (Xz1.out.mono hb2)
  have cz0 := Yz2.out.c 0 rfl
  have cz1 := Yz2.out.c 1 rfl
  have cz2 := Yz2.out.c 2 rfl
  have fz := Yz2.out.f
  have lz := Yz2.out.lt
  clear Xa1 Xb1 Xz1
  go_wp2_with (fail)
  refine (dm_i_t HD.out _).mono ?_
  rintro ee w3 ⟨rfl, hb3⟩
  have hz3 := hb3.size
  have hw3 : Below w.heap.size w w3 := chain hw2 hb3 hw2.size
  clear ca0 ca1 ca2 cb0 cb1 cb2 cz0 cz1 cz2
  clear fa la fb lb fz lz
  have Ya3 := hid (Ya2.out.mono hb3)
  have ca0 := Ya3.out.c 0 rfl
  have ca1 := Ya3.out.c 1 rfl
  have ca2 := Ya3.out.c 2 rfl
  have fa := Ya3.out.f
  have la := Ya3.out.lt
  have Yb3 := hid (Yb2.out.mono hb3)
  have cb0 := Yb3.out.c 0 rfl
  have cb1 := Yb3.out.c 1 rfl
  have cb2 := Yb3.out.c 2 rfl
  have fb := Yb3.out.f
  have lb := Yb3.out.lt
  have Yz3 := hid (Yz2.out.mono hb3)
  have cz0 := Yz3.out.c 0 rfl
  have cz1 := Yz3.out.c 1 rfl
  have cz2 := Yz3.out.c 2 rfl
  have fz := Yz3.out.f
  have lz := Yz3.out.lt
  go_wp2_with (fail)
  refine (dm_i_t HD2.out _).mono ?_
  rintro ee w4 ⟨rfl, hb4⟩
  have hz4 := hb4.size
  have hw4 : Below w.heap.size w w4 := chain hw3 hb4 hw3.size
  clear ca0 ca1 ca2 cb0 cb1 cb2 cz0 cz1 cz2
  clear fa la fb lb fz lz
  have Ya4 := hid (Ya3.out.mono hb4)
  have ca0 := Ya4.out.c 0 rfl
  have ca1 := Ya4.out.c 1 rfl
  have ca2 := Ya4.out.c 2 rfl
  have fa := Ya4.out.f
  have la := Ya4.out.lt
  have Yb4 := hid (Yb3.out.mono hb4)
  have cb0 := Yb4.out.c 0 rfl
  have cb1 := Yb4.out.c 1 rfl
  have cb2 := Yb4.out.c 2 rfl
  have fb := Yb4.out.f
  have lb := Yb4.out.lt
  have Yz4 := hid (Yz3.out.mono hb4)
  have cz0 := Yz4.out.c 0 rfl
  have cz1 := Yz4.out.c 1 rfl
  have cz2 := Yz4.out.c 2 rfl
  have fz := Yz4.out.f
  have lz := Yz4.out.lt
  go_wp2_with (fail)
  refine (zm (r := P) (c := Q) (n := N) (by rw [EN.out]; simp) n32).mono ?_
  rintro ee w5 ⟨gz, rfl, hBz, hgz, hb5⟩
  have hz5 := hb5.size
  have hw5 : Below w.heap.size w w5 := chain hw4 hb5 hw4.size
  have lz5 := hBz.lt
  have HBz := hid hBz
  clear hBz
  clear ca0 ca1 ca2 cb0 cb1 cb2 cz0 cz1 cz2
  clear fa la fb lb fz lz
  have Ya5 := hid (Ya4.out.mono hb5)
  have ca0 := Ya5.out.c 0 rfl
  have ca1 := Ya5.out.c 1 rfl
  have ca2 := Ya5.out.c 2 rfl
  have fa := Ya5.out.f
  have la := Ya5.out.lt
  have Yb5 := hid (Yb4.out.mono hb5)
  have cb0 := Yb5.out.c 0 rfl
  have cb1 := Yb5.out.c 1 rfl
  have cb2 := Yb5.out.c 2 rfl
  have fb := Yb5.out.f
  have lb := Yb5.out.lt
  have Yz5 := hid (Yz4.out.mono hb5)
  have cz0 := Yz5.out.c 0 rfl
  have cz1 := Yz5.out.c 1 rfl
  have cz2 := Yz5.out.c 2 rfl
  have fz := Yz5.out.f
  have lz := Yz5.out.lt
  clear Ya2 Yb2 Yz2 Ya3 Yb3 Yz3 Ya4 Yb4 Yz4
  go_wp2_with (fail)
  go_loopg [52] P (fun q s1 wo => ∃ i : Nat, i + q = P ∧ s1 = .int .i64 (i : Int) ∧ Hid (Bx wo (w.heap.size) 26 #[.int .i64 (ra : Int), .int .i64 (ca : Int), .slice (some ⟨g0, 0, none⟩) n cp]) ∧ Hid (Bx wo (w.heap.size + 1) 26 #[.int .i64 (rb : Int), .int .i64 (cb : Int), .slice (some ⟨h0, 0, none⟩) m cp']) ∧ Hid (Bx wo (w.heap.size + 1 + 1) 26 #[.int .i64 0, .int .i64 0, .slice none 0 0]) ∧ Hid (Bx wo (w5.heap.size) 26 #[.int .i64 (P : Int), .int .i64 (Q : Int), .slice (some ⟨gz, 0, none⟩) N N]) ∧ Hid (Bk wo gz 37 (tab N (kP (krF Q rb cb ca xs ys) (i * Q)))) ∧ Hid (∀ q, q < i * Q → krG Q rb cb ca xs ys q = false) ∧ w5.heap.size + 1 ≤ wo.heap.size ∧ Below w.heap.size w wo)
  case atStart =>
    have R1 := Ya5.out
    have R2 := Yb5.out
    have R3 := Yz5.out
    refine ⟨0, by omega, rfl, (by show Bx _ _ _ _; (repeat' (first | (with_reducible assumption) | (with_reducible refine Bx.alloc ?_ _) | (with_reducible refine Bx.drew ?_) | (with_reducible refine Bx.drewN ?_ _) | (with_reducible refine Bx.mono ?_ (by assumption)) | (with_reducible refine Bx.badly ?_ (by assumption) (by omega)) | (with_reducible refine Bx.far ?_ (by (try simp only [World.size_alloc, World.size_drew]); omega)) | (with_reducible refine Bx.set ?_ rfl) | (with_reducible refine Bx.grown ?_ (by assumption) (by assumption))))), (by show Bx _ _ _ _; (repeat' (first | (with_reducible assumption) | (with_reducible refine Bx.alloc ?_ _) | (with_reducible refine Bx.drew ?_) | (with_reducible refine Bx.drewN ?_ _) | (with_reducible refine Bx.mono ?_ (by assumption)) | (with_reducible refine Bx.badly ?_ (by assumption) (by omega)) | (with_reducible refine Bx.far ?_ (by (try simp only [World.size_alloc, World.size_drew]); omega)) | (with_reducible refine Bx.set ?_ rfl) | (with_reducible refine Bx.grown ?_ (by assumption) (by assumption))))), (by show Bx _ _ _ _; (repeat' (first | (with_reducible assumption) | (with_reducible refine Bx.alloc ?_ _) | (with_reducible refine Bx.drew ?_) | (with_reducible refine Bx.drewN ?_ _) | (with_reducible refine Bx.mono ?_ (by assumption)) | (with_reducible refine Bx.badly ?_ (by assumption) (by omega)) | (with_reducible refine Bx.far ?_ (by (try simp only [World.size_alloc, World.size_drew]); omega)) | (with_reducible refine Bx.set ?_ rfl) | (with_reducible refine Bx.grown ?_ (by assumption) (by assumption))))), (by show Bx _ _ _ _; (repeat' (first | (with_reducible assumption) | (refine Bx.new (by first | (with_reducible rfl) | (simp; done))) | (with_reducible refine Bx.alloc ?_ _) | (with_reducible refine Bx.drew ?_) | (with_reducible refine Bx.drewN ?_ _) | (with_reducible refine Bx.mono ?_ (by assumption)) | (with_reducible refine Bx.badly ?_ (by assumption) (by omega)) | (with_reducible refine Bx.far ?_ (by (try simp only [World.size_alloc, World.size_drew]); omega)) | (with_reducible refine Bx.set ?_ rfl) | (with_reducible refine Bx.grown ?_ (by assumption) (by assumption))))), ?_, ?_, by simp, by (repeat' (first | (with_reducible exact Below.refl _ _) | (with_reducible assumption) | (with_reducible refine Below.alloc ?_ ?_ _) | (with_reducible refine Below.drew ?_) | (with_reducible refine below_drewN ?_ _) | (with_reducible refine Below.setCell ?_ ?_ _) | (with_reducible refine chain ?_ (by assumption) ?_) | omega | (simp; done) | (simp; omega)))⟩
    · show Bk _ _ _ _
      rw [Nat.zero_mul, kP_0]
      exact HBz.out.alloc _
    · intro q hq; rw [Nat.zero_mul] at hq; omega
  case round =>
    obtain ⟨i, hi, rfl, Xa, Xb, Xz, Xo, HG, HK, hsz, hB⟩ := hrel
    obtain ⟨wo, rfl⟩ : ∃ wo, wo = wr := ⟨_, rfl⟩
    clear ca0 ca1 ca2 cb0 cb1 cb2 cz0 cz1 cz2 fa la fb lb fz lz Ya5 Yb5 Yz5 HBz
    have ca0 := Xa.out.c 0 rfl
    have ca1 := Xa.out.c 1 rfl
    have ca2 := Xa.out.c 2 rfl
    have la := Xa.out.lt
    have cb0 := Xb.out.c 0 rfl
    have cb1 := Xb.out.c 1 rfl
    have cb2 := Xb.out.c 2 rfl
    have lb := Xb.out.lt
    have cz0 := Xz.out.c 0 rfl
    have cz1 := Xz.out.c 1 rfl
    have cz2 := Xz.out.c 2 rfl
    have lz := Xz.out.lt
    have fz := Xz.out.f
    have co0 := Xo.out.c 0 rfl
    have co1 := Xo.out.c 1 rfl
    have co2 := Xo.out.c 2 rfl
    have lo := Xo.out.lt
    cases gk with
    | zero =>
      obtain rfl : i = P := by omega
      have hBq := hB.size
      go_wp2_with (fail)
      refine bodyPost_ret (v := mt (i : Int) (Q : Int) (some ⟨gz, 0, none⟩) N N true) (by first | (simp [results, Try.results27, go_sem, *]; done) | (simp (disch := (first | omega | (simp; done) | (simp; omega))) [results, Try.results27, go_sem, *]; done) | (simp only [results, Try.results27]; go_simp; done)) rfl ⟨fun h => ?_, fun _ => ⟨gz, rfl, ?_, by omega⟩, ?_⟩
      · rw [anyB_f (fun q hq => HK.out q (by rw [← EN.out]; exact hq))] at h; cases h
      · have h1 := HG.out
        rw [← EN.out, kP_all (Nat.le_refl _)] at h1
        (repeat' (first | exact h1 | refine Bk.far ?_ (by show gz ≠ w.heap.size + 1 + 1; omega) _))
      · (repeat' (first | (with_reducible exact Below.refl _ _) | (with_reducible assumption) | (with_reducible refine Below.alloc ?_ ?_ _) | (with_reducible refine Below.drew ?_) | (with_reducible refine below_drewN ?_ _) | (with_reducible refine Below.setCell ?_ ?_ _) | (with_reducible refine chain ?_ (by assumption) ?_) | omega | (simp; done) | (simp; omega)))
    | succ m9 =>
      have hlti : i < P := by omega
      have i1 : (i : Int) < (P : Int) := by omega
      have hBq := hB.size
      obtain ⟨s, hs1, hs2, hs3, hs4⟩ := row_at EN.out hlti
      obtain ⟨d, hdd⟩ : ∃ d, d = i / rb := ⟨_, rfl⟩
      obtain ⟨e, hee⟩ : ∃ e, e = i % rb := ⟨_, rfl⟩
      have hdl : d < ra := by rw [hdd]; exact Nat.div_lt_of_lt_mul (by rw [Nat.mul_comm, ← EP.out]; exact hlti)
      have hel : e < rb := by rw [hee]; exact Nat.mod_lt _ (by omega)
      have rb0 : ¬ (rb = 0) := by omega
      have dw : IntKind.i64.wrap (d : Int) = (d : Int) := IntWalk.i64_in _ (by omega)
      have ew : IntKind.i64.wrap (e : Int) = (e : Int) := IntWalk.i64_in _ (by omega)
      have d1 : (i : Int) / (rb : Int) = (d : Int) := by rw [hdd]; simp
      have d2 : (i : Int).tdiv (rb : Int) = (d : Int) := by rw [hdd]; rfl
      have d3 : IntKind.i64.wrap ((i : Int).tdiv (rb : Int)) = (d : Int) := by rw [d2]; exact IntWalk.i64_in _ (by omega)
      have e1 : (i : Int) % (rb : Int) = (e : Int) := by rw [hee]; simp
      have e2 : (i : Int).tmod (rb : Int) = (e : Int) := by rw [hee]; rfl
      have e3 : IntKind.i64.wrap ((i : Int).tmod (rb : Int)) = (e : Int) := by rw [e2]; exact IntWalk.i64_in _ (by omega)
      obtain ⟨sa, sa1, sa2, sa3, sa4⟩ := row_at HNN.out hdl
      obtain ⟨sb, sb1, sb2, sb3, sb4⟩ := row_at HMM.out hel
      have HDD := hid hdd
      have HEE := hid hee
      have HS1 := hid hs1
      have HS2 := hid hs2
      have HS4 := hid hs4
      have SA1 := hid sa1
      have SA2 := hid sa2
      have SA4 := hid sa4
      have SB1 := hid sb1
      have SB2 := hid sb2
      have SB4 := hid sb4
      clear hs1 hs2 hs4 sa1 sa2 sa4 sb1 sb2 sb4 hdd hee
      have HG0 := HG.out
      have HK0 := HK.out
      rw [← HS4.out] at HG0 HK0
      have HG1 := hid HG0
      have HK1 := hid HK0
      clear HG HK HG0 HK0
      go_wp2_with (fail)
      refine (rw_i (s := s) HS1.out HS2.out (by omega) (by omega) (by omega) (by omega)).mono ?_
      rintro ee w6 ⟨rfl, hb6⟩
      have hz6 := hb6.size
      have hB6 : Below w.heap.size w w6 := chain hB hb6 hB.size
      have Ya := hid (Xa.out.mono hb6)
      have Yb := hid (Xb.out.mono hb6)
      have Yz := hid (Xz.out.mono hb6)
      have Yo := hid (Xo.out.mono hb6)
      clear Xa ca0 ca1 ca2 la Xb cb0 cb1 cb2 lb Xz cz0 cz1 cz2 lz Xo co0 co1 co2 lo
      clear fz
      have Xa := Ya
      have ca0 := Xa.out.c 0 rfl
      have ca1 := Xa.out.c 1 rfl
      have ca2 := Xa.out.c 2 rfl
      have la := Xa.out.lt
      have Xb := Yb
      have cb0 := Xb.out.c 0 rfl
      have cb1 := Xb.out.c 1 rfl
      have cb2 := Xb.out.c 2 rfl
      have lb := Xb.out.lt
      have Xz := Yz
      have cz0 := Xz.out.c 0 rfl
      have cz1 := Xz.out.c 1 rfl
      have cz2 := Xz.out.c 2 rfl
      have lz := Xz.out.lt
      have Xo := Yo
      have co0 := Xo.out.c 0 rfl
      have co1 := Xo.out.c 1 rfl
      have co2 := Xo.out.c 2 rfl
      have lo := Xo.out.lt
      have fz := Xz.out.f
      clear Ya Yb Yz Yo
      have HG6 := hid (HG1.out.mono hb6)
      clear HG1
      go_wp2_with (fail)
      have yca0 : w6.drew.cell? ⟨w.heap.size, 0, none⟩ = some (.int .i64 (ra : Int)) := ca0
      have yca1 : w6.drew.cell? ⟨w.heap.size, 1, none⟩ = some (.int .i64 (ca : Int)) := ca1
      have yca2 : w6.drew.cell? ⟨w.heap.size, 2, none⟩ = some (.slice (some ⟨g0, 0, none⟩) n cp) := ca2
      have ycb0 : w6.drew.cell? ⟨w.heap.size + 1, 0, none⟩ = some (.int .i64 (rb : Int)) := cb0
      refine wp_region_x (fun w' => w'.cell? ⟨w.heap.size, 0, none⟩ = some (.int .i64 (ra : Int)) ∧ w'.cell? ⟨w.heap.size, 1, none⟩ = some (.int .i64 (ca : Int)) ∧ w'.cell? ⟨w.heap.size, 2, none⟩ = some (.slice (some ⟨g0, 0, none⟩) n cp) ∧ w'.cell? ⟨w.heap.size + 1, 0, none⟩ = some (.int .i64 (rb : Int))) 1000 (by kernel_rfl) ⟨yca0, yca1, yca2, ycb0⟩ (fun hS0 => ?_)
      refine wpAnyX_take (i := 0) (oi := _) (v := ?_) rfl (by kernel_rfl) (by kernel_rfl) (by kernel_rfl) (by kernel_rfl) (fun _ _ _ h => h) (Or.inl ⟨by rfl, ?_⟩) hS0 ?_
      rotate_left 1
      · (intro w hSw; (try dsimp only at hSw); go_simp; (try with_reducible rfl))
      try simp only [Act.put, List.setIfInBounds_toArray, List.set_cons_zero, List.set_cons_succ]
      refine wpAnyX_take (i := 1) (oi := _) (v := ?_) rfl (by kernel_rfl) (by kernel_rfl) (by kernel_rfl) (by kernel_rfl) (fun _ _ _ h => h) (Or.inl ⟨by rfl, ?_⟩) hS0 ?_
      rotate_left 1
      · (intro w hSw; (try dsimp only at hSw); go_simp; (try with_reducible rfl))
      try simp only [Act.put, List.setIfInBounds_toArray, List.set_cons_zero, List.set_cons_succ]
      refine wpAnyX_take (i := 2) (oi := _) (v := ?_) rfl (by kernel_rfl) (by kernel_rfl) (by kernel_rfl) (by kernel_rfl) (fun _ _ _ h => h) (Or.inl ⟨by rfl, ?_⟩) hS0 ?_
      rotate_left 1
      · (intro w hSw; (try dsimp only at hSw); go_simp; (try with_reducible rfl))
      try simp only [Act.put, List.setIfInBounds_toArray, List.set_cons_zero, List.set_cons_succ]
      refine wpAnyX_take (i := 3) (oi := _) (v := ?_) rfl (by kernel_rfl) (by kernel_rfl) (by kernel_rfl) (by kernel_rfl) (fun _ _ _ h => h) (Or.inl ⟨by rfl, ?_⟩) hS0 ?_
      rotate_left 1
      · (intro w hSw; (try dsimp only at hSw); go_simp; (try with_reducible rfl))
      try simp only [Act.put, List.setIfInBounds_toArray, List.set_cons_zero, List.set_cons_succ]
      refine wpAnyX_take (i := 4) (oi := _) (v := ?_) rfl (by kernel_rfl) (by kernel_rfl) (by kernel_rfl) (by kernel_rfl) (fun _ _ _ h => h) (Or.inl ⟨by rfl, ?_⟩) hS0 ?_
      rotate_left 1
      · (intro w hSw; (try dsimp only at hSw); go_simp; (try with_reducible rfl))
      try simp only [Act.put, List.setIfInBounds_toArray, List.set_cons_zero, List.set_cons_succ]
      refine wpAnyX_take (i := 7) (oi := _) (v := ?_) rfl (by kernel_rfl) (by kernel_rfl) (by kernel_rfl) (by kernel_rfl) (fun _ _ _ h => h) (Or.inl ⟨by rfl, ?_⟩) hS0 ?_
      rotate_left 1
      · (intro w hSw; (try dsimp only at hSw); go_simp; (try with_reducible rfl))
      try simp only [Act.put, List.setIfInBounds_toArray, List.set_cons_zero, List.set_cons_succ]
      refine wpAnyX_one (i := 5) (o := _) rfl (by kernel_rfl) (fun K hK => ?_)
      go_simp
      refine (rw_i (i := d) (s := sa) SA1.out SA2.out (by omega) hc2 a3 (by omega)).mono ?_
      rintro ee w7 ⟨rfl, hb7⟩
      have hc7 : Below w6.heap.size w6 w7 := ⟨hb7.os, hb7.tape, hb7.output, hb7.size, hb7.block⟩
      refine hK.out _ _ (fun _ => ?_) (fun hS1 => ?_)
      · exact ⟨kc hb7 (hS0.1), kc hb7 (hS0.2.1), kc hb7 (hS0.2.2.1), kc hb7 (hS0.2.2.2)⟩
      clear hK K
      have hS1 := hS1 (by decide)
      try simp only [Act.put, List.setIfInBounds_toArray, List.set_cons_zero, List.set_cons_succ]
      refine wpAnyX_take (i := 6) (oi := _) (v := ?_) rfl (by kernel_rfl) (by kernel_rfl) (by kernel_rfl) (by kernel_rfl) (fun _ _ _ h => h) (Or.inl ⟨by rfl, ?_⟩) hS1 ?_
      rotate_left 1
      · (intro w hSw; (try dsimp only at hSw); go_simp; (try with_reducible rfl))
      change wpAnyX _ _ _ _ _ _ _ _ (Act.put _ (some 64) _) _
      try simp only [Act.put, List.setIfInBounds_toArray, List.set_cons_zero, List.set_cons_succ]
      refine wpAnyX_done (by kernel_rfl) ?_ _
      have hz7 := hc7.size
      have hB7 : Below w.heap.size w w7 := chain hB6 hc7 hB6.size
      have Ya := hid (Xa.out.mono hc7)
      have Yb := hid (Xb.out.mono hc7)
      have Yz := hid (Xz.out.mono hc7)
      have Yo := hid (Xo.out.mono hc7)
      have HG7 := hid (HG6.out.mono hc7)
      clear HG6 Xa ca0 ca1 ca2 la Xb cb0 cb1 cb2 lb Xz cz0 cz1 cz2 lz Xo co0 co1 co2 lo fz
      go_wp2_with (fail)
      go_loopg [65] ca (fun q s1 wi => ∃ j : Nat, j + q = ca ∧ s1 = .int .i64 (j : Int) ∧ Hid (Bx wi (w.heap.size) 26 #[.int .i64 (ra : Int), .int .i64 (ca : Int), .slice (some ⟨g0, 0, none⟩) n cp]) ∧ Hid (Bx wi (w.heap.size + 1) 26 #[.int .i64 (rb : Int), .int .i64 (cb : Int), .slice (some ⟨h0, 0, none⟩) m cp']) ∧ Hid (Bx wi (w.heap.size + 1 + 1) 26 #[.int .i64 0, .int .i64 0, .slice none 0 0]) ∧ Hid (Bx wi (w5.heap.size) 26 #[.int .i64 (P : Int), .int .i64 (Q : Int), .slice (some ⟨gz, 0, none⟩) N N]) ∧ Hid (Bk wi gz 37 (tab N (kP (krF Q rb cb ca xs ys) (s + j * cb)))) ∧ Hid (∀ q, q < s + j * cb → krG Q rb cb ca xs ys q = false) ∧ w5.heap.size + 1 ≤ wi.heap.size ∧ Below w.heap.size w wi)
      case atStart =>
        refine ⟨0, by omega, rfl, Ya, Yb, Yz, Yo, ?_, ?_, by omega, hB7⟩
        · show Bk _ _ _ _
          rw [Nat.zero_mul, Nat.add_zero]; exact HG7.out
        · intro q hq; exact HK1.out q (by omega)
      case round =>
        clear Ya Yb Yz Yo HG7 HK1
        obtain ⟨j, hj, rfl, Xa, Xb, Xz, Xo, HG, HK, hsz, hB⟩ := hrel
        have ca0 := Xa.out.c 0 rfl
        have ca1 := Xa.out.c 1 rfl
        have ca2 := Xa.out.c 2 rfl
        have la := Xa.out.lt
        have cb0 := Xb.out.c 0 rfl
        have cb1 := Xb.out.c 1 rfl
        have cb2 := Xb.out.c 2 rfl
        have lb := Xb.out.lt
        have cz0 := Xz.out.c 0 rfl
        have cz1 := Xz.out.c 1 rfl
        have cz2 := Xz.out.c 2 rfl
        have lz := Xz.out.lt
        have fz := Xz.out.f
        have co0 := Xo.out.c 0 rfl
        have co1 := Xo.out.c 1 rfl
        have co2 := Xo.out.c 2 rfl
        have lo := Xo.out.lt
        cases gk with
        | zero =>
          obtain rfl : j = ca := by omega
          go_wp2_with (fail)
          go_roundg m9
          case measure => omega
          case rel =>
            have ek : (i + 1) * Q = s + j * cb := by rw [Nat.add_mul, Nat.one_mul, ← HS4.out, EQ.out]
            refine ⟨i + 1, by omega, by go_num, Xa, Xb, Xz, Xo, ?_, ?_, hsz, hB⟩
            · show Bk _ _ _ _
              rw [ek]; exact HG.out
            · show ∀ q, q < (i + 1) * Q → _
              rw [ek]; exact HK.out
        | succ m2 =>
          have hltj : j < ca := by omega
          have j1 : (j : Int) < (ca : Int) := by omega
          have hBr := hB.size
          obtain ⟨u, u1, u2, u3, u4⟩ := row_at EQ.out hltj
          have hx := get_of (xs := xs) (q := sa + j) (by rw [HN.out]; omega)
          obtain ⟨x, hxe⟩ : ∃ x, x = xs.getD (sa + j) z5 := ⟨_, rfl⟩
          rw [← hxe] at hx
          have HKx := hid (all_get (okM_iff.1 HO.out).2.2.2 hx)
          have HX : Hid (xs.getD (i / rb * ca + j) z5 = x) := by show _ = x; rw [hxe, SA4.out, HDD.out]
          have hC := HA.out.cx hx
          obtain ⟨q0, q1, q2, q3, q4⟩ := hC.at_ (hB.block g0 h0A)
          simp only [Nat.add_mul] at q0 q1 q2 q3 q4
          have HG0 := HG.out
          have HK0 := HK.out
          rw [← u4] at HG0 HK0
          have HG1 := hid HG0
          have HK1 := hid HK0
          have U4 := hid u4
          simp only [Int.natCast_add] at u2
          have v1 : (u : Int) + cb ≤ Q := by omega
          have v2 : ¬ (Q = u) := by omega
          have v3 : u + cb - u = cb := by omega
          have v4 : (u : Int) ≤ 1048576 := by omega
          have v5 : (1 : Int) ≤ cb := by omega
          have v6 : (j : Int) ≤ 1048576 := by omega
          have v7 : (Q : Int) ≤ 1048576 := by omega
          have v8 : u + cb ≤ Q := u3
          clear hC hx hxe HG HK HG0 HK0 u4
          go_wp2_with (fail)
          simp only [v3]
          obtain ⟨W, hW⟩ : ∃ W : World, W = wr.alloc (.cells #[.int .i64 x.a, .int .i64 x.b, .int .i64 x.c, .int .i64 x.d, .int .i64 x.e] 37) := ⟨_, rfl⟩
          have hbW : Below wr.heap.size wr W := by rw [hW]; exact (Below.refl _ _).alloc (Nat.le_refl _) _
          have XW0 : Bx W wr.heap.size 37 #[.int .i64 x.a, .int .i64 x.b, .int .i64 x.c, .int .i64 x.d, .int .i64 x.e] := by rw [hW]; exact Bx.new rfl
          have XW := hid XW0
          have hzW : W.heap.size = wr.heap.size + 1 := by rw [hW]; simp
          have hzW1 : wr.heap.size < W.heap.size := by omega
          rw [← hW]
          clear hW hzW XW0
          have hBW : Below w.heap.size w W := chain hB hbW hBr
          have Ya := hid (Xa.out.mono hbW)
          have Yb := hid (Xb.out.mono hbW)
          have Yz := hid (Xz.out.mono hbW)
          have Yo := hid (Xo.out.mono hbW)
          have HGW := hid (HG1.out.mono hbW)
          clear HG1 Xa ca0 ca1 ca2 la Xb cb0 cb1 cb2 lb Xz cz0 cz1 cz2 lz Xo co0 co1 co2 lo fz
          have cb0 := Yb.out.c 0 rfl
          have cb1 := Yb.out.c 1 rfl
          have cb2 := Yb.out.c 2 rfl
          have ycb0 : W.drew.cell? ⟨w.heap.size + 1, 0, none⟩ = some (.int .i64 (rb : Int)) := cb0
          have ycb1 : W.drew.cell? ⟨w.heap.size + 1, 1, none⟩ = some (.int .i64 (cb : Int)) := cb1
          have ycb2 : W.drew.cell? ⟨w.heap.size + 1, 2, none⟩ = some (.slice (some ⟨h0, 0, none⟩) m cp') := cb2
          refine wp_region_x (fun w' => w'.cell? ⟨w.heap.size + 1, 0, none⟩ = some (.int .i64 (rb : Int)) ∧ w'.cell? ⟨w.heap.size + 1, 1, none⟩ = some (.int .i64 (cb : Int)) ∧ w'.cell? ⟨w.heap.size + 1, 2, none⟩ = some (.slice (some ⟨h0, 0, none⟩) m cp')) 1000 (by kernel_rfl) ⟨ycb0, ycb1, ycb2⟩ (fun hS0 => ?_)
          refine wpAnyX_take (i := 0) (oi := _) (v := ?_) rfl (by kernel_rfl) (by kernel_rfl) (by kernel_rfl) (by kernel_rfl) (fun _ _ _ h => h) (Or.inl ⟨by rfl, ?_⟩) hS0 ?_
          rotate_left 1
          · (intro w hSw; (try dsimp only at hSw); go_simp; (try with_reducible rfl))
          try simp only [Act.put, List.setIfInBounds_toArray, List.set_cons_zero, List.set_cons_succ]
          refine wpAnyX_take (i := 2) (oi := _) (v := ?_) rfl (by kernel_rfl) (by kernel_rfl) (by kernel_rfl) (by kernel_rfl) (fun _ _ _ h => h) (Or.inl ⟨by rfl, ?_⟩) hS0 ?_
          rotate_left 1
          · (intro w hSw; (try dsimp only at hSw); go_simp; (try with_reducible rfl))
          try simp only [Act.put, List.setIfInBounds_toArray, List.set_cons_zero, List.set_cons_succ]
          refine wpAnyX_take (i := 3) (oi := _) (v := ?_) rfl (by kernel_rfl) (by kernel_rfl) (by kernel_rfl) (by kernel_rfl) (fun _ _ _ h => h) (Or.inl ⟨by rfl, ?_⟩) hS0 ?_
          rotate_left 1
          · (intro w hSw; (try dsimp only at hSw); go_simp; (try with_reducible rfl))
          try simp only [Act.put, List.setIfInBounds_toArray, List.set_cons_zero, List.set_cons_succ]
          refine wpAnyX_two (i := 1) (j := 4) (oi := _) (oj := _) rfl rfl (by kernel_rfl) (fun K hK => ?_) (fun K hK => ?_)
          · go_simp
            refine hK.out _ _ (fun _ => ?_) (fun hS1 => ?_)
            · exact hS0
            clear hK K
            have hS1 := hS1 (by decide)
            try simp only [Act.put, List.setIfInBounds_toArray, List.set_cons_zero, List.set_cons_succ]
            refine wpAnyX_one (i := 4) (o := _) rfl (by kernel_rfl) (fun K hK => ?_)
            go_simp
            refine hK.out _ _ (fun _ => ?_) (fun hS2 => ?_)
            · exact hS1
            clear hK K
            have hS2 := hS2 (by decide)
            try simp only [Act.put, List.setIfInBounds_toArray, List.set_cons_zero, List.set_cons_succ]
            refine wpAnyX_take (i := 5) (oi := _) (v := ?_) rfl (by kernel_rfl) (by kernel_rfl) (by kernel_rfl) (by kernel_rfl) (fun _ _ _ h => h) (Or.inl ⟨by rfl, ?_⟩) hS2 ?_
            rotate_left 1
            · (intro w hSw; (try dsimp only at hSw); go_simp; (try with_reducible rfl))
            try simp only [Act.put, List.setIfInBounds_toArray, List.set_cons_zero, List.set_cons_succ]
            refine wpAnyX_one (i := 6) (o := _) rfl (by kernel_rfl) (fun K hK => ?_)
            go_simp
            refine (rw_i (i := e) (s := sb) SB1.out SB2.out (by omega) hc4 b3 (by omega)).mono ?_
            rintro ee w8 ⟨rfl, hb8⟩
            have hc8 : Below W.heap.size W w8 := ⟨hb8.os, hb8.tape, hb8.output, hb8.size, hb8.block⟩
            have hB8 : Below w.heap.size w w8 := chain hBW hc8 hBW.size
            have hG8 := HGW.out.mono hc8
            have hr8 : Rd w8 (some ⟨h0, sb * 5, none⟩) ((ys.drop sb).take cb) := by
              have h9 := ((HB.out.mono hB8).sub sb).take cb
              rw [Nat.zero_add] at h9
              exact h9
            have hl8 : ((ys.drop sb).take cb).length = cb := by rw [List.length_take, List.length_drop, HM.out]; omega
            refine hK.out _ _ (fun _ => ?_) (fun hS3 => ?_)
            · exact ⟨kc hb8 (hS2.1), kc hb8 (hS2.2.1), kc hb8 (hS2.2.2)⟩
            clear hK K
            have hS3 := hS3 (by decide)
            try simp only [Act.put, List.setIfInBounds_toArray, List.set_cons_zero, List.set_cons_succ]
            refine wpAnyX_one (i := 7) (o := _) rfl (by kernel_rfl) (fun K hK => ?_)
            refine step_copy5 rfl (.tmp 81) (.tmp 87) 24 24 (by rfl) 37 Try.underlying24 HS5.out gz (s + u) (s * 5 + u * 5) cb (Q - u) h0 (sb * 5) cb (by rfl) (by rfl) (by rw [Nat.add_mul]) _ _ 37 hG8 hr8 hl8 (by rw [tab_len]; omega) w.heap.size w hB8 (by omega) ?_
            intro w9 hK9 hb9 hk9 hz9
            refine hK.out _ _ (fun _ => ?_) (fun hS4 => ?_)
            · exact ⟨(World.cell?_of_block (a := ⟨w.heap.size + 1, 0, none⟩) (hk9 (w.heap.size + 1) (by omega))).trans (hS3.1), (World.cell?_of_block (a := ⟨w.heap.size + 1, 1, none⟩) (hk9 (w.heap.size + 1) (by omega))).trans (hS3.2.1), (World.cell?_of_block (a := ⟨w.heap.size + 1, 2, none⟩) (hk9 (w.heap.size + 1) (by omega))).trans (hS3.2.2)⟩
            clear hK K
            have hS4 := hS4 (by decide)
            try simp only [Act.put, List.setIfInBounds_toArray, List.set_cons_zero, List.set_cons_succ]
            refine wpAnyX_done (by kernel_rfl) ?_ _
            have hz8 := hc8.size
            rw [tab_copy (by omega) hl8] at hK9
            have HK9 := hid hK9
            have Xa := hid (show Bx _ _ _ _ from (hk9 _ (by omega)).trans (Ya.out.mono hc8))
            have Xb := hid (show Bx _ _ _ _ from (hk9 _ (by omega)).trans (Yb.out.mono hc8))
            have Xz := hid (show Bx _ _ _ _ from (hk9 _ (by omega)).trans (Yz.out.mono hc8))
            have Xo := hid (show Bx _ _ _ _ from (hk9 _ (by omega)).trans (Yo.out.mono hc8))
            have X9 := hid (show Bx _ _ _ _ from (hk9 wr.heap.size (by omega)).trans (XW.out.mono hc8))
            have y0 := X9.out.c 0 rfl
            have y1 := X9.out.c 1 rfl
            have y2 := X9.out.c 2 rfl
            have y3 := X9.out.c 3 rfl
            have y4 := X9.out.c 4 rfl
            clear hK9 hk9 hG8 hr8 Ya Yb Yz Yo XW HGW cb0 cb1 cb2
            have blk := kr_block (N := N) (k := s + u) (row := (ys.drop sb).take cb) (ys := ys) EQ.out hltj (by rw [HS4.out, U4.out]) (by omega) HX.out (by rw [SB4.out, HEE.out]) (fun r hr => row_getD hr)
            have HBK := hid blk
            clear blk
            have hsr := srow (k := s + u) (m := cb) (cs := Q - u) (N := N) (x := x) HK9.out (by omega) n32 (by omega) (by omega) (fun r hr => by
              rw [if_pos (by omega), Nat.add_sub_cancel_left, row_getD hr]
              exact all_get (okM_iff.1 HP.out).2.2.2 (get_of (by rw [HM.out]; omega))) HKx.out
            rw [Nat.add_mul] at hsr
            have HSR := hid hsr
            clear hsr
            go_wp2_with (fail)
            refine HSR.out.mono ?_
            rintro ee w10 ⟨hAR1, hAR2, hg10⟩
            have hz10 := hg10.size
            have hB10 : Below w.heap.size w w10 := Below.grown hb9 hg10 hb9.size (fun q e => by simp only [Option.some.injEq] at e; omega)
            have Ya := hid (Xa.out.grown hg10 (by intro e; simp only [Option.some.injEq] at e; omega))
            have Yb := hid (Xb.out.grown hg10 (by intro e; simp only [Option.some.injEq] at e; omega))
            have Yz := hid (Xz.out.grown hg10 (by intro e; simp only [Option.some.injEq] at e; omega))
            have Yo := hid (Xo.out.grown hg10 (by intro e; simp only [Option.some.injEq] at e; omega))
            clear Xa Xb Xz Xo X9 y0 y1 y2 y3 y4 HSR HK9 hg10
            cases hany : anyB cb (mulH (fun q => if s + u ≤ q ∧ q < s + u + cb then ((ys.drop sb).take cb).getD (q - (s + u)) z5 else kP (krF Q rb cb ca xs ys) (s + u) q) x (s + u))
            · have h2 := hAR2 hany
              obtain ⟨rfl, hK⟩ := h2
              rw [HBK.out.1] at hK
              have HKK := hid hK
              have HNY := hid hany
              clear hK hAR1 hAR2 hany
              go_wp2_with (fail)
              go_roundg m2
              case measure => omega
              case rel =>
                have ek : s + (j + 1) * cb = s + u + cb := by rw [Nat.add_mul, Nat.one_mul, ← U4.out]; omega
                refine ⟨j + 1, by omega, by go_num, Ya, Yb, Yz, Yo, ?_, ?_, by omega, hB10⟩
                · show Bk _ _ _ _
                  rw [ek]; exact HKK.out
                · show ∀ q, q < s + (j + 1) * cb → _
                  rw [ek]
                  intro q hq
                  by_cases h9 : q < s + u
                  · exact HK1.out q h9
                  · obtain ⟨r, rfl⟩ := Nat.exists_eq_add_of_le (Nat.le_of_not_lt h9)
                    rw [← HBK.out.2 r (by omega)]
                    exact anyB_get HNY.out (by omega)
            · have he := hAR1 hany
              subst he
              have bad : anyB N (krG Q rb cb ca xs ys) = true := by
                cases hNN : anyB N (krG Q rb cb ca xs ys)
                · have h7 := anyB_f (j := cb) (G := mulH (fun q => if s + u ≤ q ∧ q < s + u + cb then ((ys.drop sb).take cb).getD (q - (s + u)) z5 else kP (krF Q rb cb ca xs ys) (s + u) q) x (s + u)) (fun r hr => by rw [HBK.out.2 r hr]; exact anyB_get hNN (by omega))
                  rw [h7] at hany
                  cases hany
                · rfl
              have BAD := hid bad
              have cz0 := Yz.out.c 0 rfl
              have cz1 := Yz.out.c 1 rfl
              have cz2 := Yz.out.c 2 rfl
              have fz := Yz.out.f
              have hB10' := hid hB10
              have sz10 : w.heap.size + 1 + 1 < w10.heap.size := Yz.out.lt
              clear hAR1 hAR2 hany bad hB10 HBK Ya Yb Yo HK1 U4 HX HKx hz10 hl8 hz8 hz9 hb9 hc8 hb8 hB8 hBW hbW hz7 hB7 hc7 hb7 HS1 HS2 HS4 SA1 SA2 SA4 SB1 SB2 SB4 HDD HEE v1 v2 v3 v4 v5 v6 v7 v8 u1 u2 u3 d1 d2 d3 e1 e2 e3
              go_upto_region 14 with (fail)
              go_cut [4, 5] (fun s4 s5 wx => s4 = .pointer (some ⟨w.heap.size + 1 + 1, 0, none⟩) ∧ s5 = .bool false ∧ wx.cell? ⟨w.heap.size + 1 + 1, 0, none⟩ = some (.int .i64 0) ∧ wx.cell? ⟨w.heap.size + 1 + 1, 1, none⟩ = some (.int .i64 0) ∧ wx.cell? ⟨w.heap.size + 1 + 1, 2, none⟩ = some (.slice none 0 0) ∧ Hid (Below w.heap.size w wx))
              case first =>
                have hB10 := hB10'.out
                have hBq := hB10.size
                have RZ : Bx _ _ _ _ := Yz.out
                have RZ3 := ((RZ.set (i := 0) (u := .int .i64 0) rfl).set (i := 1) (u := .int .i64 0) rfl).set (i := 2) (u := .slice none 0 0) rfl
                go_wp2_with (fail)
                go_meet
                refine ⟨rfl, rfl, RZ3.c 0 rfl, RZ3.c 1 rfl, RZ3.c 2 rfl, ?_⟩
                show Below _ _ _
                (repeat' (first | (with_reducible exact Below.refl _ _) | (with_reducible assumption) | (with_reducible refine Below.alloc ?_ ?_ _) | (with_reducible refine Below.drew ?_) | (with_reducible refine below_drewN ?_ _) | (with_reducible refine Below.setCell ?_ ?_ _) | (with_reducible refine chain ?_ (by assumption) ?_) | omega | (simp; done) | (simp; omega)))
              case rest =>
                obtain ⟨rfl, rfl, y0, y1, y2, HBc⟩ := hcut
                clear cz0 cz1 cz2 fz hB10' Yz
                apply_assumption
                refine wp_ret ?_
                simp only [Exit.inBlock, Exit.then]
                refine bodyPost_ret (v := mt 0 0 none 0 0 false) (by simp only [results, Try.results27]; go_simp; done) rfl ⟨fun _ => rfl, fun h => ?_, HBc.out⟩
                rw [BAD.out] at h; cases h
          · go_simp
            refine hK.out _ _ (fun _ => ?_) (fun hS1 => ?_)
            · exact hS0
            clear hK K
            have hS1 := hS1 (by decide)
            try simp only [Act.put, List.setIfInBounds_toArray, List.set_cons_zero, List.set_cons_succ]
            refine wpAnyX_take (i := 5) (oi := _) (v := ?_) rfl (by kernel_rfl) (by kernel_rfl) (by kernel_rfl) (by kernel_rfl) (fun _ _ _ h => h) (Or.inl ⟨by rfl, ?_⟩) hS1 ?_
            rotate_left 1
            · (intro w hSw; (try dsimp only at hSw); go_simp; (try with_reducible rfl))
            try simp only [Act.put, List.setIfInBounds_toArray, List.set_cons_zero, List.set_cons_succ]
            refine wpAnyX_one (i := 1) (o := _) rfl (by kernel_rfl) (fun K hK => ?_)
            go_simp
            refine hK.out _ _ (fun _ => ?_) (fun hS2 => ?_)
            · exact hS1
            clear hK K
            have hS2 := hS2 (by decide)
            try simp only [Act.put, List.setIfInBounds_toArray, List.set_cons_zero, List.set_cons_succ]
            refine wpAnyX_one (i := 6) (o := _) rfl (by kernel_rfl) (fun K hK => ?_)
            go_simp
            refine (rw_i (i := e) (s := sb) SB1.out SB2.out (by omega) hc4 b3 (by omega)).mono ?_
            rintro ee w8 ⟨rfl, hb8⟩
            have hc8 : Below W.heap.size W w8 := ⟨hb8.os, hb8.tape, hb8.output, hb8.size, hb8.block⟩
            have hB8 : Below w.heap.size w w8 := chain hBW hc8 hBW.size
            have hG8 := HGW.out.mono hc8
            have hr8 : Rd w8 (some ⟨h0, sb * 5, none⟩) ((ys.drop sb).take cb) := by
              have h9 := ((HB.out.mono hB8).sub sb).take cb
              rw [Nat.zero_add] at h9
              exact h9
            have hl8 : ((ys.drop sb).take cb).length = cb := by rw [List.length_take, List.length_drop, HM.out]; omega
            refine hK.out _ _ (fun _ => ?_) (fun hS3 => ?_)
            · exact ⟨kc hb8 (hS2.1), kc hb8 (hS2.2.1), kc hb8 (hS2.2.2)⟩
            clear hK K
            have hS3 := hS3 (by decide)
            try simp only [Act.put, List.setIfInBounds_toArray, List.set_cons_zero, List.set_cons_succ]
            refine wpAnyX_one (i := 7) (o := _) rfl (by kernel_rfl) (fun K hK => ?_)
            refine step_copy5 rfl (.tmp 81) (.tmp 87) 24 24 (by rfl) 37 Try.underlying24 HS5.out gz (s + u) (s * 5 + u * 5) cb (Q - u) h0 (sb * 5) cb (by rfl) (by rfl) (by rw [Nat.add_mul]) _ _ 37 hG8 hr8 hl8 (by rw [tab_len]; omega) w.heap.size w hB8 (by omega) ?_
            intro w9 hK9 hb9 hk9 hz9
            refine hK.out _ _ (fun _ => ?_) (fun hS4 => ?_)
            · exact ⟨(World.cell?_of_block (a := ⟨w.heap.size + 1, 0, none⟩) (hk9 (w.heap.size + 1) (by omega))).trans (hS3.1), (World.cell?_of_block (a := ⟨w.heap.size + 1, 1, none⟩) (hk9 (w.heap.size + 1) (by omega))).trans (hS3.2.1), (World.cell?_of_block (a := ⟨w.heap.size + 1, 2, none⟩) (hk9 (w.heap.size + 1) (by omega))).trans (hS3.2.2)⟩
            clear hK K
            have hS4 := hS4 (by decide)
            try simp only [Act.put, List.setIfInBounds_toArray, List.set_cons_zero, List.set_cons_succ]
            refine wpAnyX_done (by kernel_rfl) ?_ _
            have hz8 := hc8.size
            rw [tab_copy (by omega) hl8] at hK9
            have HK9 := hid hK9
            have Xa := hid (show Bx _ _ _ _ from (hk9 _ (by omega)).trans (Ya.out.mono hc8))
            have Xb := hid (show Bx _ _ _ _ from (hk9 _ (by omega)).trans (Yb.out.mono hc8))
            have Xz := hid (show Bx _ _ _ _ from (hk9 _ (by omega)).trans (Yz.out.mono hc8))
            have Xo := hid (show Bx _ _ _ _ from (hk9 _ (by omega)).trans (Yo.out.mono hc8))
            have X9 := hid (show Bx _ _ _ _ from (hk9 wr.heap.size (by omega)).trans (XW.out.mono hc8))
            have y0 := X9.out.c 0 rfl
            have y1 := X9.out.c 1 rfl
            have y2 := X9.out.c 2 rfl
            have y3 := X9.out.c 3 rfl
            have y4 := X9.out.c 4 rfl
            clear hK9 hk9 hG8 hr8 Ya Yb Yz Yo XW HGW cb0 cb1 cb2
            have blk := kr_block (N := N) (k := s + u) (row := (ys.drop sb).take cb) (ys := ys) EQ.out hltj (by rw [HS4.out, U4.out]) (by omega) HX.out (by rw [SB4.out, HEE.out]) (fun r hr => row_getD hr)
            have HBK := hid blk
            clear blk
            have hsr := srow (k := s + u) (m := cb) (cs := Q - u) (N := N) (x := x) HK9.out (by omega) n32 (by omega) (by omega) (fun r hr => by
              rw [if_pos (by omega), Nat.add_sub_cancel_left, row_getD hr]
              exact all_get (okM_iff.1 HP.out).2.2.2 (get_of (by rw [HM.out]; omega))) HKx.out
            rw [Nat.add_mul] at hsr
            have HSR := hid hsr
            clear hsr
            go_wp2_with (fail)
            refine HSR.out.mono ?_
            rintro ee w10 ⟨hAR1, hAR2, hg10⟩
            have hz10 := hg10.size
            have hB10 : Below w.heap.size w w10 := Below.grown hb9 hg10 hb9.size (fun q e => by simp only [Option.some.injEq] at e; omega)
            have Ya := hid (Xa.out.grown hg10 (by intro e; simp only [Option.some.injEq] at e; omega))
            have Yb := hid (Xb.out.grown hg10 (by intro e; simp only [Option.some.injEq] at e; omega))
            have Yz := hid (Xz.out.grown hg10 (by intro e; simp only [Option.some.injEq] at e; omega))
            have Yo := hid (Xo.out.grown hg10 (by intro e; simp only [Option.some.injEq] at e; omega))
            clear Xa Xb Xz Xo X9 y0 y1 y2 y3 y4 HSR HK9 hg10
            cases hany : anyB cb (mulH (fun q => if s + u ≤ q ∧ q < s + u + cb then ((ys.drop sb).take cb).getD (q - (s + u)) z5 else kP (krF Q rb cb ca xs ys) (s + u) q) x (s + u))
            · have h2 := hAR2 hany
              obtain ⟨rfl, hK⟩ := h2
              rw [HBK.out.1] at hK
              have HKK := hid hK
              have HNY := hid hany
              clear hK hAR1 hAR2 hany
              go_wp2_with (fail)
              go_roundg m2
              case measure => omega
              case rel =>
                have ek : s + (j + 1) * cb = s + u + cb := by rw [Nat.add_mul, Nat.one_mul, ← U4.out]; omega
                refine ⟨j + 1, by omega, by go_num, Ya, Yb, Yz, Yo, ?_, ?_, by omega, hB10⟩
                · show Bk _ _ _ _
                  rw [ek]; exact HKK.out
                · show ∀ q, q < s + (j + 1) * cb → _
                  rw [ek]
                  intro q hq
                  by_cases h9 : q < s + u
                  · exact HK1.out q h9
                  · obtain ⟨r, rfl⟩ := Nat.exists_eq_add_of_le (Nat.le_of_not_lt h9)
                    rw [← HBK.out.2 r (by omega)]
                    exact anyB_get HNY.out (by omega)
            · have he := hAR1 hany
              subst he
              have bad : anyB N (krG Q rb cb ca xs ys) = true := by
                cases hNN : anyB N (krG Q rb cb ca xs ys)
                · have h7 := anyB_f (j := cb) (G := mulH (fun q => if s + u ≤ q ∧ q < s + u + cb then ((ys.drop sb).take cb).getD (q - (s + u)) z5 else kP (krF Q rb cb ca xs ys) (s + u) q) x (s + u)) (fun r hr => by rw [HBK.out.2 r hr]; exact anyB_get hNN (by omega))
                  rw [h7] at hany
                  cases hany
                · rfl
              have BAD := hid bad
              have cz0 := Yz.out.c 0 rfl
              have cz1 := Yz.out.c 1 rfl
              have cz2 := Yz.out.c 2 rfl
              have fz := Yz.out.f
              have hB10' := hid hB10
              have sz10 : w.heap.size + 1 + 1 < w10.heap.size := Yz.out.lt
              clear hAR1 hAR2 hany bad hB10 HBK Ya Yb Yo HK1 U4 HX HKx hz10 hl8 hz8 hz9 hb9 hc8 hb8 hB8 hBW hbW hz7 hB7 hc7 hb7 HS1 HS2 HS4 SA1 SA2 SA4 SB1 SB2 SB4 HDD HEE v1 v2 v3 v4 v5 v6 v7 v8 u1 u2 u3 d1 d2 d3 e1 e2 e3
              go_upto_region 14 with (fail)
              go_cut [4, 5] (fun s4 s5 wx => s4 = .pointer (some ⟨w.heap.size + 1 + 1, 0, none⟩) ∧ s5 = .bool false ∧ wx.cell? ⟨w.heap.size + 1 + 1, 0, none⟩ = some (.int .i64 0) ∧ wx.cell? ⟨w.heap.size + 1 + 1, 1, none⟩ = some (.int .i64 0) ∧ wx.cell? ⟨w.heap.size + 1 + 1, 2, none⟩ = some (.slice none 0 0) ∧ Hid (Below w.heap.size w wx))
              case first =>
                have hB10 := hB10'.out
                have hBq := hB10.size
                have RZ : Bx _ _ _ _ := Yz.out
                have RZ3 := ((RZ.set (i := 0) (u := .int .i64 0) rfl).set (i := 1) (u := .int .i64 0) rfl).set (i := 2) (u := .slice none 0 0) rfl
                go_wp2_with (fail)
                go_meet
                refine ⟨rfl, rfl, RZ3.c 0 rfl, RZ3.c 1 rfl, RZ3.c 2 rfl, ?_⟩
                show Below _ _ _
                (repeat' (first | (with_reducible exact Below.refl _ _) | (with_reducible assumption) | (with_reducible refine Below.alloc ?_ ?_ _) | (with_reducible refine Below.drew ?_) | (with_reducible refine below_drewN ?_ _) | (with_reducible refine Below.setCell ?_ ?_ _) | (with_reducible refine chain ?_ (by assumption) ?_) | omega | (simp; done) | (simp; omega)))
              case rest =>
                obtain ⟨rfl, rfl, y0, y1, y2, HBc⟩ := hcut
                clear cz0 cz1 cz2 fz hB10' Yz
                apply_assumption
                refine wp_ret ?_
                simp only [Exit.inBlock, Exit.then]
                refine bodyPost_ret (v := mt 0 0 none 0 0 false) (by simp only [results, Try.results27]; go_simp; done) rfl ⟨fun _ => rfl, fun h => ?_, HBc.out⟩
                rw [BAD.out] at h; cases h
end Go.Proofs.Ytncgccpkbneagaa
