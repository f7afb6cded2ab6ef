/- Contracts of Adjoint and of its model. -/
import Derived.Test.YtnjckeadcbfogaaAdj
namespace Go.Proofs.Ytnjckeadcbfogaa
open Go.RowKit RM
set_option linter.unusedVariables false
set_option linter.unusedSimpArgs false
attribute [local irreducible] World.setCell

set_option maxRecDepth 100000 in
set_option maxHeartbeats 4000000 in
theorem adj_i_f {r c : Int} {g0 n cp : Nat} {xs : List D5} {w : World} (hA : Rd w (some ⟨g0, 0, none⟩) xs) (hn : xs.length = n) (hok : okM r c n xs = false) :
    Calls Try.prog 86 #[mv r c (some ⟨g0, 0, none⟩) n cp] w fun ee w' => ee = .returned (mt 0 0 none 0 0 false) ∧ Below w.heap.size w w' := by
  have HA := hid hA
  have HN := hid hn
  have HO := hid hok
  clear hA hn hok
  go_enter Try.func86, Try.ntmps86
  go_wp2_with (fail)
  refine (vm_i_f (xs := xs) HO.out ?_ HN.out).mono ?_
  · exact HA.out.mono (by (repeat' (first | (with_reducible exact Below.refl _ _) | (with_reducible assumption) | (with_reducible refine Below.alloc ?_ ?_ _) | (with_reducible refine Below.drew ?_) | (with_reducible refine below_drewN ?_ _) | (with_reducible refine Below.setCell ?_ ?_ _) | (with_reducible refine chain ?_ (by assumption) ?_) | omega | (simp; done) | (simp; omega))))
  rintro ee w1 ⟨rfl, hb1⟩
  obtain ⟨hc1, hf1, _⟩ := bcell hb1; have hz1 := hb1.size; (try simp at hz1); (try have hx10 : w.heap.size < w1.heap.size := (by omega)); (try have hx11 : w.heap.size + 1 < w1.heap.size := (by omega)); (try have hx12 : w.heap.size + 1 + 1 < w1.heap.size := (by omega)); (try have hx13 : w.heap.size + 1 + 1 + 1 < w1.heap.size := (by omega))
  go_wp2_with (fail)
  refine bodyPost_ret (v := mt 0 0 none 0 0 false) (by first | (simp [results, Try.results86, go_sem, *]; done) | (simp (disch := (first | omega | (simp; done) | (simp; omega))) [results, Try.results86, go_sem, *]; done) | (simp only [results, Try.results86]; go_simp; done)) rfl ⟨rfl, ?_⟩
  (repeat' (first | (with_reducible exact Below.refl _ _) | (with_reducible assumption) | (with_reducible refine Below.alloc ?_ ?_ _) | (with_reducible refine Below.drew ?_) | (with_reducible refine below_drewN ?_ _) | (with_reducible refine Below.setCell ?_ ?_ _) | (with_reducible refine chain ?_ (by assumption) ?_) | omega | (simp; done) | (simp; omega)))

/-- what has been filled in: the columns below i, and of column i what lies below j -/
def adjP (r : Nat) (i j : Nat) (F : Nat → D5) (q : Nat) : D5 := if q % r < i ∨ (q % r = i ∧ q / r < j) then F q else z5
theorem adjP_0 {r n : Nat} {F : Nat → D5} : List.replicate n z5 = tab n (adjP r 0 0 F) := by
  rw [tab_repl]
  exact tab_congr (fun q _ => by unfold adjP; generalize q % r = a; generalize q / r = b; rw [if_neg (by omega)])
theorem adjP_next {r c i : Nat} {F : Nat → D5} (hr : 0 < r) : tab (c * r) (adjP r i c F) = tab (c * r) (adjP r (i + 1) 0 F) := tab_congr (fun q hq => by
  have h1 : q / r < c := Nat.div_lt_of_lt_mul (by rw [Nat.mul_comm]; exact hq)
  unfold adjP
  generalize q % r = a at *
  generalize q / r = b at *
  by_cases h : a < i + 1
  · rw [if_pos (by omega), if_pos (Or.inl h)]
  · rw [if_neg (by omega), if_neg (by omega)])
theorem adjP_all {r c : Nat} {F : Nat → D5} (hr : 0 < r) : tab (c * r) (adjP r r 0 F) = tab (c * r) F := tab_congr (fun q _ => by
  unfold adjP; rw [if_pos (Or.inl (Nat.mod_lt _ hr))])
theorem adjP_set {r c i j : Nat} {F : Nat → D5} {x : D5} (hi : i < r) (hj : j < c) (hx : F (j * r + i) = x) : (tab (c * r) (adjP r i j F)).set (j * r + i) x = tab (c * r) (adjP r i (j + 1) F) := by
  have hlt : j * r + i < c * r := by
    have h1 : (j + 1) * r ≤ c * r := Nat.mul_le_mul_right r hj
    rw [Nat.add_mul, Nat.one_mul] at h1
    omega
  rw [tab_set hlt]
  refine tab_congr (fun q _ => ?_)
  have hm := Nat.div_add_mod q r
  unfold adjP
  by_cases h : q = j * r + i
  · subst h
    have e1 : (j * r + i) % r = i := by rw [Nat.mul_comm, Nat.mul_add_mod, Nat.mod_eq_of_lt hi]
    have e2 : (j * r + i) / r = j := by rw [Nat.mul_comm, Nat.mul_add_div (by omega), Nat.div_eq_of_lt hi, Nat.add_zero]
    rw [if_pos rfl, if_pos (Or.inr ⟨e1, by omega⟩), hx]
  · rw [if_neg h]
    have h2 : ¬ (q % r = i ∧ q / r = j) := fun ⟨a, b⟩ => h (by rw [← hm, a, b, Nat.mul_comm])
    generalize q % r = a at *
    generalize q / r = b at *
    by_cases h3 : a < i ∨ (a = i ∧ b < j)
    · rw [if_pos h3, if_pos (by omega)]
    · rw [if_neg h3, if_neg (by omega)]

set_option maxRecDepth 100000 in
set_option maxHeartbeats 8000000 in
theorem adj_i_t {R C N9 : Nat} {g0 n cp : Nat} {xs : List D5} {w : World} (hA : Rd w (some ⟨g0, 0, none⟩) xs) (hn : xs.length = n) (hok : okM (R : Int) (C : Int) n xs = true) (hcp : n ≤ cp) (hcp2 : cp ≤ 1048576) (hN9 : N9 = C * R) :
    Calls Try.prog 86 #[mv (R : Int) (C : Int) (some ⟨g0, 0, none⟩) n cp] w fun ee w' => ∃ g : Nat, ee = .returned (mt (C : Int) (R : Int) (some ⟨g, 0, none⟩) N9 N9 true) ∧ Bk w' g 59 (tab N9 (adjF R C xs)) ∧ w.heap.size ≤ g ∧ Below w.heap.size w w' := by
  obtain ⟨hnn, h1, h2, h3, h4, h5⟩ := okM_nat2 hok
  have k2 : (C : Int) ≤ 32 := by omega
  have k4 : (R : Int) ≤ 32 := by omega
  have hn1 : N9 ≤ 1024 := by rw [hN9, Nat.mul_comm, ← hnn]; exact h5
  have HNN := hid hnn
  have H9 := hid hN9
  clear hnn hN9
  have HA := hid hA
  have HN := hid hn
  have HO := hid hok
  clear hA hn hok
  go_enter Try.func86, Try.ntmps86
  go_wp2_with (fail)
  refine (vm_i_t (xs := xs) HO.out ?_ HN.out).mono ?_
  · exact HA.out.mono (by (repeat' (first | (with_reducible exact Below.refl _ _) | (with_reducible assumption) | (with_reducible refine Below.alloc ?_ ?_ _) | (with_reducible refine Below.drew ?_) | (with_reducible refine below_drewN ?_ _) | (with_reducible refine Below.setCell ?_ ?_ _) | (with_reducible refine chain ?_ (by assumption) ?_) | omega | (simp; done) | (simp; omega))))
  rintro ee w1 ⟨rfl, hb1⟩
  obtain ⟨hc1, hf1, _⟩ := bcell hb1; have hz1 := hb1.size; (try simp at hz1); (try have hx10 : w.heap.size < w1.heap.size := (by omega)); (try have hx11 : w.heap.size + 1 < w1.heap.size := (by omega)); (try have hx12 : w.heap.size + 1 + 1 < w1.heap.size := (by omega)); (try have hx13 : w.heap.size + 1 + 1 + 1 < w1.heap.size := (by omega))
  have Xm1 : Hid (Bx w1 (w.heap.size) 28 #[.int .i64 (R : Int), .int .i64 (C : Int), .slice (some ⟨g0, 0, none⟩) n cp]) := by show Bx _ _ _ _; (repeat' (first | (with_reducible assumption) | (refine Bx.new (by first | (with_reducible rfl) | (simp; done))) | (with_reducible refine Bx.alloc ?_ _) | (with_reducible refine Bx.drew ?_) | (with_reducible refine Bx.drewN ?_ _) | (with_reducible refine Bx.mono ?_ (by assumption)) | (with_reducible refine Bx.badly ?_ (by assumption) (by omega)) | (with_reducible refine Bx.far ?_ (by (try simp only [World.size_alloc, World.size_drew]); omega)) | (with_reducible refine Bx.set ?_ rfl) | (with_reducible refine Bx.grown ?_ (by assumption) (by assumption))))
  have Xz1 : Hid (Bx w1 (w.heap.size + 1) 28 #[.int .i64 0, .int .i64 0, .slice none 0 0]) := by show Bx _ _ _ _; (repeat' (first | (with_reducible assumption) | (refine Bx.new (by first | (with_reducible rfl) | (simp; done))) | (with_reducible refine Bx.alloc ?_ _) | (with_reducible refine Bx.drew ?_) | (with_reducible refine Bx.drewN ?_ _) | (with_reducible refine Bx.mono ?_ (by assumption)) | (with_reducible refine Bx.badly ?_ (by assumption) (by omega)) | (with_reducible refine Bx.far ?_ (by (try simp only [World.size_alloc, World.size_drew]); omega)) | (with_reducible refine Bx.set ?_ rfl) | (with_reducible refine Bx.grown ?_ (by assumption) (by assumption))))
  go_wp2_with (fail)
  refine (zm (r := C) (c := R) (n := N9) (by rw [H9.out]; simp) hn1).mono ?_
  rintro ee w2 ⟨gz, rfl, hBz, hgz, hb2⟩
  obtain ⟨hc2, hf2, _⟩ := bcell hb2; have hz2 := hb2.size; (try simp at hz2); (try have hx20 : w.heap.size < w2.heap.size := (by omega)); (try have hx21 : w.heap.size + 1 < w2.heap.size := (by omega)); (try have hx22 : w.heap.size + 1 + 1 < w2.heap.size := (by omega)); (try have hx23 : w.heap.size + 1 + 1 + 1 < w2.heap.size := (by omega))
  have hw2 : Below w.heap.size w w2 := by (repeat' (first | (with_reducible exact Below.refl _ _) | (with_reducible assumption) | (with_reducible refine Below.alloc ?_ ?_ _) | (with_reducible refine Below.drew ?_) | (with_reducible refine below_drewN ?_ _) | (with_reducible refine Below.setCell ?_ ?_ _) | (with_reducible refine chain ?_ (by assumption) ?_) | omega | (simp; done) | (simp; omega)))
  have Xm2 := hid (Xm1.out.mono hb2)
  have Xz2 := hid (Xz1.out.mono hb2)
  have lz1 := hBz.lt
  have HBz := hid hBz
  clear hBz
  go_wp2_with (fail)
  go_loopg [19] R (fun q s1 wo => ∃ i : Nat, i + q = R ∧ s1 = .int .i64 (i : Int) ∧ Hid (Bx wo (w.heap.size) 28 #[.int .i64 (R : Int), .int .i64 (C : Int), .slice (some ⟨g0, 0, none⟩) n cp]) ∧ Hid (Bx wo (w.heap.size + 1) 28 #[.int .i64 0, .int .i64 0, .slice none 0 0]) ∧ Hid (Bx wo (w2.heap.size) 28 #[.int .i64 (C : Int), .int .i64 (R : Int), .slice (some ⟨gz, 0, none⟩) N9 N9]) ∧ Hid (Bk wo gz 59 (tab N9 (adjP R i 0 (adjF R C xs)))) ∧ w2.heap.size < wo.heap.size ∧ Below w.heap.size w wo)
  case atStart =>
    have R1 := Xm2.out
    have R2 := Xz2.out
    refine ⟨0, by omega, rfl, (by show Bx _ _ _ _; (repeat' (first | (with_reducible assumption) | (refine Bx.new (by first | (with_reducible rfl) | (simp; done))) | (with_reducible refine Bx.alloc ?_ _) | (with_reducible refine Bx.drew ?_) | (with_reducible refine Bx.drewN ?_ _) | (with_reducible refine Bx.mono ?_ (by assumption)) | (with_reducible refine Bx.badly ?_ (by assumption) (by omega)) | (with_reducible refine Bx.far ?_ (by (try simp only [World.size_alloc, World.size_drew]); omega)) | (with_reducible refine Bx.set ?_ rfl) | (with_reducible refine Bx.grown ?_ (by assumption) (by assumption))))), (by show Bx _ _ _ _; (repeat' (first | (with_reducible assumption) | (refine Bx.new (by first | (with_reducible rfl) | (simp; done))) | (with_reducible refine Bx.alloc ?_ _) | (with_reducible refine Bx.drew ?_) | (with_reducible refine Bx.drewN ?_ _) | (with_reducible refine Bx.mono ?_ (by assumption)) | (with_reducible refine Bx.badly ?_ (by assumption) (by omega)) | (with_reducible refine Bx.far ?_ (by (try simp only [World.size_alloc, World.size_drew]); omega)) | (with_reducible refine Bx.set ?_ rfl) | (with_reducible refine Bx.grown ?_ (by assumption) (by assumption))))), (by show Bx _ _ _ _; (repeat' (first | (with_reducible assumption) | (refine Bx.new (by first | (with_reducible rfl) | (simp; done))) | (with_reducible refine Bx.alloc ?_ _) | (with_reducible refine Bx.drew ?_) | (with_reducible refine Bx.drewN ?_ _) | (with_reducible refine Bx.mono ?_ (by assumption)) | (with_reducible refine Bx.badly ?_ (by assumption) (by omega)) | (with_reducible refine Bx.far ?_ (by (try simp only [World.size_alloc, World.size_drew]); omega)) | (with_reducible refine Bx.set ?_ rfl) | (with_reducible refine Bx.grown ?_ (by assumption) (by assumption))))), ?_, by simp, by (repeat' (first | (with_reducible exact Below.refl _ _) | (with_reducible assumption) | (with_reducible refine Below.alloc ?_ ?_ _) | (with_reducible refine Below.drew ?_) | (with_reducible refine below_drewN ?_ _) | (with_reducible refine Below.setCell ?_ ?_ _) | (with_reducible refine chain ?_ (by assumption) ?_) | omega | (simp; done) | (simp; omega)))⟩
    show Bk _ _ _ _
    have := HBz.out
    rw [adjP_0 (r := R) (F := adjF R C xs)] at this
    exact this.alloc _
  case round =>
    obtain ⟨i, hi, rfl, Xm, Xz, Xo, HG, hsz, hB⟩ := hrel
    obtain ⟨wo, rfl⟩ : ∃ wo, wo = wr := ⟨_, rfl⟩
    clear Xm1 Xz1 Xm2 Xz2 HBz
    have cm0 := Xm.out.c 0 rfl
    have cm1 := Xm.out.c 1 rfl
    have cm2 := Xm.out.c 2 rfl
    have lm := Xm.out.lt
    have cz0 := Xz.out.c 0 rfl
    have cz1 := Xz.out.c 1 rfl
    have cz2 := Xz.out.c 2 rfl
    have lz := Xz.out.lt
    have fz := Xz.out.f
    have co0 := Xo.out.c 0 rfl
    have co1 := Xo.out.c 1 rfl
    have co2 := Xo.out.c 2 rfl
    have lo := Xo.out.lt
    cases gk with
    | zero =>
      obtain rfl : i = R := by omega
      go_wp2_with (fail)
      refine bodyPost_ret (v := mt (C : Int) (i : Int) (some ⟨gz, 0, none⟩) N9 N9 true) (by first | (simp [results, Try.results86, go_sem, *]; done) | (simp (disch := (first | omega | (simp; done) | (simp; omega))) [results, Try.results86, go_sem, *]; done) | (simp only [results, Try.results86]; go_simp; done)) rfl ⟨gz, rfl, ?_, by omega, ?_⟩
      · have h1 := HG.out
        rw [H9.out, adjP_all (by omega), ← H9.out] at h1
        (repeat' (first | exact h1 | refine Bk.far ?_ (by show gz ≠ w.heap.size + 1; omega) _))
      · have hBq := hB.size
        (repeat' (first | (with_reducible exact Below.refl _ _) | (with_reducible assumption) | (with_reducible refine Below.alloc ?_ ?_ _) | (with_reducible refine Below.drew ?_) | (with_reducible refine below_drewN ?_ _) | (with_reducible refine Below.setCell ?_ ?_ _) | (with_reducible refine chain ?_ (by assumption) ?_) | omega | (simp; done) | (simp; omega)))
    | succ m =>
      have hlti : i < R := by omega
      obtain ⟨s, hs1, hs2, hs3, hs4⟩ := row_at HNN.out hlti
      have i1 : (i : Int) < (R : Int) := by omega
      have HS1 := hid hs1
      have HS2 := hid hs2
      have HS4 := hid hs4
      clear hs1 hs2 hs4
      go_wp2_with (fail)
      refine (rw_i (s := s) HS1.out HS2.out (by omega) hcp2 h3 (by omega)).mono ?_
      rintro ee w5 ⟨rfl, hb5⟩
      have hz5 := hb5.size
      have Ym := hid (Xm.out.mono hb5)
      have Yz := hid (Xz.out.mono hb5)
      have Yo := hid (Xo.out.mono hb5)
      have HG5 := hid (HG.out.mono hb5)
      have hB5 : Below w.heap.size w w5 := chain hB hb5 hB.size
      clear cm0 cm1 cm2 cz0 cz1 cz2 co0 co1 co2 lm lz lo fz
      go_wp2_with (fail)
      go_loopg [26] C (fun q s1 wi => ∃ j : Nat, j + q = C ∧ s1 = .int .i64 (j : Int) ∧ Hid (Bx wi (w.heap.size) 28 #[.int .i64 (R : Int), .int .i64 (C : Int), .slice (some ⟨g0, 0, none⟩) n cp]) ∧ Hid (Bx wi (w.heap.size + 1) 28 #[.int .i64 0, .int .i64 0, .slice none 0 0]) ∧ Hid (Bx wi (w2.heap.size) 28 #[.int .i64 (C : Int), .int .i64 (R : Int), .slice (some ⟨gz, 0, none⟩) N9 N9]) ∧ Hid (Bk wi gz 59 (tab N9 (adjP R i j (adjF R C xs)))) ∧ w2.heap.size < wi.heap.size ∧ Below w.heap.size w wi)
      case atStart => exact ⟨0, by omega, rfl, Ym, Yz, Yo, HG5, by omega, hB5⟩
      case round =>
        clear Ym Yz Yo HG5 HG Xm Xz Xo
        obtain ⟨j, hj, rfl, Xm, Xz, Xo, HG, hsz, hB⟩ := hrel
        have cm0 := Xm.out.c 0 rfl
        have cm1 := Xm.out.c 1 rfl
        have cm2 := Xm.out.c 2 rfl
        have lm := Xm.out.lt
        have cz0 := Xz.out.c 0 rfl
        have cz1 := Xz.out.c 1 rfl
        have cz2 := Xz.out.c 2 rfl
        have lz := Xz.out.lt
        have co0 := Xo.out.c 0 rfl
        have co1 := Xo.out.c 1 rfl
        have co2 := Xo.out.c 2 rfl
        have lo := Xo.out.lt
        cases gk with
        | zero =>
          obtain rfl : j = C := by omega
          go_wp2_with (fail)
          go_roundg m
          case measure => omega
          case rel =>
            refine ⟨i + 1, by omega, by go_num, Xm, Xz, Xo, ?_, hsz, hB⟩
            show Bk _ _ _ _
            have h1 := HG.out
            rw [H9.out, adjP_next (by omega), ← H9.out] at h1
            exact h1
        | succ m2 =>
          have hltj : j < C := by omega
          have j1 : (j : Int) < (C : Int) := by omega
          have hx := get_of (xs := xs) (q := s + j) (by rw [HN.out]; omega)
          obtain ⟨x, hxe⟩ : ∃ x, x = xs.getD (s + j) z5 := ⟨_, rfl⟩
          rw [← hxe] at hx
          have hokx := all_get (okM_iff.1 HO.out).2.2.2 hx
          have HX : Hid (adjF R C xs (j * R + i) = conj5 x) := by show _ = _; rw [adjF_at hlti, hxe, HS4.out]
          clear hxe
          have HK := hid hokx
          clear hokx
          have hC := HA.out.cx hx
          have hgw := hC.lt
          obtain ⟨q0, q1, q2, q3, q4⟩ := hC.at_ (hB.block g0 hgw)
          simp only [Nat.add_mul] at q0 q1 q2 q3 q4
          clear hC hx
          obtain ⟨t, ht1, ht2, ht3, ht4⟩ := row_at H9.out hltj
          have HT1 := hid ht1
          have HT2 := hid ht2
          have HT4 := hid ht4
          clear ht1 ht2 ht4
          go_wp2_with (fail)
          obtain ⟨W, hW⟩ : ∃ W : World, W = wr.alloc (.cells #[.int .i64 x.a, .int .i64 x.b, .int .i64 x.c, .int .i64 x.d, .int .i64 x.e] 59) := ⟨_, rfl⟩
          have hbW : Below wr.heap.size wr W := by rw [hW]; exact (Below.refl _ _).alloc (Nat.le_refl _) _
          have XW : Bx W wr.heap.size 59 #[.int .i64 x.a, .int .i64 x.b, .int .i64 x.c, .int .i64 x.d, .int .i64 x.e] := by rw [hW]; exact Bx.new rfl
          have hzW : W.heap.size = wr.heap.size + 1 := by rw [hW]; simp
          have hzW1 : wr.heap.size < W.heap.size := by omega
          rw [← hW]
          clear hW hzW
          have XmW := hid (Xm.out.mono hbW)
          have XzW := hid (Xz.out.mono hbW)
          have XoW := hid (Xo.out.mono hbW)
          have HGW := hid (HG.out.mono hbW)
          have hBW : Below w.heap.size w W := chain hB hbW hB.size
          have co0 := XoW.out.c 0 rfl
          have co1 := XoW.out.c 1 rfl
          have co2 := XoW.out.c 2 rfl
          have d0 := XW.c 0 rfl
          have d1 := XW.c 1 rfl
          have d2 := XW.c 2 rfl
          have d3 := XW.c 3 rfl
          have d4 := XW.c 4 rfl
          clear XW
          have yco0 : W.drew.cell? ⟨w2.heap.size, 0, none⟩ = some (.int .i64 (C : Int)) := co0
          have yco1 : W.drew.cell? ⟨w2.heap.size, 1, none⟩ = some (.int .i64 (R : Int)) := co1
          have yco2 : W.drew.cell? ⟨w2.heap.size, 2, none⟩ = some (.slice (some ⟨gz, 0, none⟩) N9 N9) := co2
          have yd0 : W.drew.cell? ⟨wr.heap.size, 0, none⟩ = some (.int .i64 x.a) := d0
          have yd1 : W.drew.cell? ⟨wr.heap.size, 1, none⟩ = some (.int .i64 x.b) := d1
          have yd2 : W.drew.cell? ⟨wr.heap.size, 2, none⟩ = some (.int .i64 x.c) := d2
          have yd3 : W.drew.cell? ⟨wr.heap.size, 3, none⟩ = some (.int .i64 x.d) := d3
          have yd4 : W.drew.cell? ⟨wr.heap.size, 4, none⟩ = some (.int .i64 x.e) := d4
          refine wp_region_x (fun w' => w'.cell? ⟨w2.heap.size, 0, none⟩ = some (.int .i64 (C : Int)) ∧ w'.cell? ⟨w2.heap.size, 1, none⟩ = some (.int .i64 (R : Int)) ∧ w'.cell? ⟨w2.heap.size, 2, none⟩ = some (.slice (some ⟨gz, 0, none⟩) N9 N9) ∧ w'.cell? ⟨wr.heap.size, 0, none⟩ = some (.int .i64 x.a) ∧ w'.cell? ⟨wr.heap.size, 1, none⟩ = some (.int .i64 x.b) ∧ w'.cell? ⟨wr.heap.size, 2, none⟩ = some (.int .i64 x.c) ∧ w'.cell? ⟨wr.heap.size, 3, none⟩ = some (.int .i64 x.d) ∧ w'.cell? ⟨wr.heap.size, 4, none⟩ = some (.int .i64 x.e)) 1000 (by kernel_rfl) ⟨yco0, yco1, yco2, yd0, yd1, yd2, yd3, yd4⟩ (fun hS0 => ?_)
          refine wpAnyX_take (i := 0) (oi := _) (v := ?_) rfl (by kernel_rfl) (by kernel_rfl) (by kernel_rfl) (by kernel_rfl) (fun _ _ _ h => h) (Or.inl ⟨by rfl, ?_⟩) hS0 ?_
          rotate_left 1
          · (intro w hSw; (try dsimp only at hSw); go_simp; (try with_reducible rfl))
          try simp only [Act.put, List.setIfInBounds_toArray, List.set_cons_zero, List.set_cons_succ]
          refine wpAnyX_take (i := 1) (oi := _) (v := ?_) rfl (by kernel_rfl) (by kernel_rfl) (by kernel_rfl) (by kernel_rfl) (fun _ _ _ h => h) (Or.inl ⟨by rfl, ?_⟩) hS0 ?_
          rotate_left 1
          · (intro w hSw; (try dsimp only at hSw); go_simp; (try with_reducible rfl))
          try simp only [Act.put, List.setIfInBounds_toArray, List.set_cons_zero, List.set_cons_succ]
          refine wpAnyX_take (i := 3) (oi := _) (v := ?_) rfl (by kernel_rfl) (by kernel_rfl) (by kernel_rfl) (by kernel_rfl) (fun _ _ _ h => h) (Or.inl ⟨by rfl, ?_⟩) hS0 ?_
          rotate_left 1
          · (intro w hSw; (try dsimp only at hSw); go_simp; (try with_reducible rfl))
          try simp only [Act.put, List.setIfInBounds_toArray, List.set_cons_zero, List.set_cons_succ]
          refine wpAnyX_take (i := 4) (oi := _) (v := ?_) rfl (by kernel_rfl) (by kernel_rfl) (by kernel_rfl) (by kernel_rfl) (fun _ _ _ h => h) (Or.inl ⟨by rfl, ?_⟩) hS0 ?_
          rotate_left 1
          · (intro w hSw; (try dsimp only at hSw); go_simp; (try with_reducible rfl))
          try simp only [Act.put, List.setIfInBounds_toArray, List.set_cons_zero, List.set_cons_succ]
          refine wpAnyX_one (i := 2) (o := _) rfl (by kernel_rfl) (fun K hK => ?_)
          go_simp
          refine (rw_i (s := t) HT1.out HT2.out ht3 (by omega) h1 (by omega)).mono ?_
          rintro ee w7 ⟨rfl, hb7⟩
          have hc7 : Below W.heap.size W w7 := ⟨hb7.os, hb7.tape, hb7.output, hb7.size, hb7.block⟩
          refine hK.out _ _ (fun _ => ?_) (fun hS1 => ?_)
          · exact ⟨kc hb7 (hS0.1), kc hb7 (hS0.2.1), kc hb7 (hS0.2.2.1), kc hb7 (hS0.2.2.2.1), kc hb7 (hS0.2.2.2.2.1), kc hb7 (hS0.2.2.2.2.2.1), kc hb7 (hS0.2.2.2.2.2.2.1), kc hb7 (hS0.2.2.2.2.2.2.2)⟩
          clear hK K
          have hS1 := hS1 (by decide)
          try simp only [Act.put, List.setIfInBounds_toArray, List.set_cons_zero, List.set_cons_succ]
          refine wpAnyX_one (i := 5) (o := _) rfl (by kernel_rfl) (fun K hK => ?_)
          go_simp
          refine (cji (x := x) HK.out _).mono ?_
          rintro ee w8 ⟨rfl, hb8⟩
          have hc8 : Below W.heap.size W w8 := chain hc7 hb8 hc7.size
          refine hK.out _ _ (fun _ => ?_) (fun hS2 => ?_)
          · exact ⟨kc hb8 (hS1.1), kc hb8 (hS1.2.1), kc hb8 (hS1.2.2.1), kc hb8 (hS1.2.2.2.1), kc hb8 (hS1.2.2.2.2.1), kc hb8 (hS1.2.2.2.2.2.1), kc hb8 (hS1.2.2.2.2.2.2.1), kc hb8 (hS1.2.2.2.2.2.2.2)⟩
          clear hK K
          have hS2 := hS2 (by decide)
          try simp only [Act.put, List.setIfInBounds_toArray, List.set_cons_zero, List.set_cons_succ]
          refine wpAnyX_take (i := 6) (oi := _) (v := ?_) rfl (by kernel_rfl) (by kernel_rfl) (by kernel_rfl) (by kernel_rfl) (fun _ _ _ h => h) (Or.inl ⟨by rfl, ?_⟩) hS2 ?_
          rotate_left 1
          · (intro w hSw; (try dsimp only at hSw); go_simp; (try with_reducible rfl))
          try simp only [Act.put, List.setIfInBounds_toArray, List.set_cons_zero, List.set_cons_succ]
          refine wpAnyX_take (i := 7) (oi := _) (v := ?_) rfl (by kernel_rfl) (by kernel_rfl) (by kernel_rfl) (by kernel_rfl) (fun _ _ _ h => h) (Or.inl ⟨by rfl, ?_⟩) hS2 ?_
          rotate_left 1
          · (intro w hSw; (try dsimp only at hSw); go_simp; (try with_reducible rfl))
          try simp only [Act.put, List.setIfInBounds_toArray, List.set_cons_zero, List.set_cons_succ]
          refine wpAnyX_take (i := 8) (oi := _) (v := ?_) rfl (by kernel_rfl) (by kernel_rfl) (by kernel_rfl) (by kernel_rfl) (fun _ _ _ h => h) (Or.inl ⟨by rfl, ?_⟩) hS2 ?_
          rotate_left 1
          · (intro w hSw; (try dsimp only at hSw); go_simp; (try with_reducible rfl))
          try simp only [Act.put, List.setIfInBounds_toArray, List.set_cons_zero, List.set_cons_succ]
          refine wpAnyX_take (i := 9) (oi := _) (v := ?_) rfl (by kernel_rfl) (by kernel_rfl) (by kernel_rfl) (by kernel_rfl) (fun _ _ _ h => h) (Or.inl ⟨by rfl, ?_⟩) hS2 ?_
          rotate_left 1
          · (intro w hSw; (try dsimp only at hSw); go_simp; (try with_reducible rfl))
          try simp only [Act.put, List.setIfInBounds_toArray, List.set_cons_zero, List.set_cons_succ]
          refine wpAnyX_one (i := 10) (o := _) rfl (by kernel_rfl) (fun K hK => ?_)
          have hG8 := hid (HGW.out.mono hc8)
          have fr8 := hG8.out.fr
          obtain ⟨p0, p1, p2, p3, p4⟩ := hG8.out.cx (k := t + i) (tab_get (by omega))
          simp only [Nat.add_mul] at p0 p1 p2 p3 p4
          have negz : gz ≠ w2.heap.size := by omega
          have negw : gz ≠ wr.heap.size := by have := HG.out.lt; omega
          go_simp
          refine hK.out _ _ (fun _ => ?_) (fun hS3 => ?_)
          · exact ⟨kst5 negz (hS2.1), kst5 negz (hS2.2.1), kst5 negz (hS2.2.2.1), kst5 negw (hS2.2.2.2.1), kst5 negw (hS2.2.2.2.2.1), kst5 negw (hS2.2.2.2.2.2.1), kst5 negw (hS2.2.2.2.2.2.2.1), kst5 negw (hS2.2.2.2.2.2.2.2)⟩
          clear hK K
          have hS3 := hS3 (by decide)
          try simp only [Act.put, List.setIfInBounds_toArray, List.set_cons_zero, List.set_cons_succ]
          refine wpAnyX_done (by kernel_rfl) ?_ _
          go_wp2_with (fail)
          go_roundg m2
          case measure => omega
          case rel =>
            have hz8 := hc8.size
            have R1 := XmW.out.mono hc8
            have R2 := XzW.out.mono hc8
            have R3 := XoW.out.mono hc8
            refine ⟨j + 1, by omega, by go_num, (by show Bx _ _ _ _; (repeat' (first | (with_reducible assumption) | (refine Bx.new (by first | (with_reducible rfl) | (simp; done))) | (with_reducible refine Bx.alloc ?_ _) | (with_reducible refine Bx.drew ?_) | (with_reducible refine Bx.drewN ?_ _) | (with_reducible refine Bx.mono ?_ (by assumption)) | (with_reducible refine Bx.badly ?_ (by assumption) (by omega)) | (with_reducible refine Bx.far ?_ (by (try simp only [World.size_alloc, World.size_drew]); omega)) | (with_reducible refine Bx.set ?_ rfl) | (with_reducible refine Bx.grown ?_ (by assumption) (by assumption))))), (by show Bx _ _ _ _; (repeat' (first | (with_reducible assumption) | (refine Bx.new (by first | (with_reducible rfl) | (simp; done))) | (with_reducible refine Bx.alloc ?_ _) | (with_reducible refine Bx.drew ?_) | (with_reducible refine Bx.drewN ?_ _) | (with_reducible refine Bx.mono ?_ (by assumption)) | (with_reducible refine Bx.badly ?_ (by assumption) (by omega)) | (with_reducible refine Bx.far ?_ (by (try simp only [World.size_alloc, World.size_drew]); omega)) | (with_reducible refine Bx.set ?_ rfl) | (with_reducible refine Bx.grown ?_ (by assumption) (by assumption))))), (by show Bx _ _ _ _; (repeat' (first | (with_reducible assumption) | (refine Bx.new (by first | (with_reducible rfl) | (simp; done))) | (with_reducible refine Bx.alloc ?_ _) | (with_reducible refine Bx.drew ?_) | (with_reducible refine Bx.drewN ?_ _) | (with_reducible refine Bx.mono ?_ (by assumption)) | (with_reducible refine Bx.badly ?_ (by assumption) (by omega)) | (with_reducible refine Bx.far ?_ (by (try simp only [World.size_alloc, World.size_drew]); omega)) | (with_reducible refine Bx.set ?_ rfl) | (with_reducible refine Bx.grown ?_ (by assumption) (by assumption))))), ?_, by (try simp only [World.size_setCell]); omega, ?_⟩
            · show Bk _ _ _ _
              have h1 := hG8.out.set (k := t + i) (conj5 x) (by rw [tab_len]; omega)
              rw [HT4.out] at h1
              rw [H9.out, adjP_set hlti hltj HX.out, ← H9.out] at h1
              rw [← HT4.out, Nat.add_mul] at h1
              exact h1
            · exact set5_below (x := conj5 x) (chain hBW hc8 hBW.size) (by omega)

end Go.Proofs.Ytnjckeadcbfogaa
