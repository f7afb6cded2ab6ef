/- The model of Kron. -/
import Derived.Test.YtncgccpkbneagaaZkr
import Derived.Test.YtncgccpkbneagaaZar
namespace Go.Proofs.Ytncgccpkbneagaa
open Go.RowKit RM
set_option linter.unusedVariables false
set_option linter.unusedSimpArgs false
attribute [local irreducible] World.setCell

theorem idx_lt {i j P Q : Nat} (hi : i < P) (hj : j < Q) : i * Q + j < P * Q := by
  have h1 : (i + 1) * Q ≤ P * Q := Nat.mul_le_mul_right Q hi
  rw [Nat.add_mul, Nat.one_mul] at h1; omega
set_option maxRecDepth 100000 in
set_option maxHeartbeats 4000000 in
theorem kr_s_v1 {r c r' c' : Int} {A B : Option Addr} {n m cp cp' : Nat} {xs ys : List D5} {w : World} (hA : Rd w A xs) (hB : Rd w B ys) (hn : xs.length = n) (hm : ys.length = m) (hok : okM r c n xs = false) :
    Calls Try.prog 38 #[mv r c A n cp, mv r' c' B m cp'] w fun ee w' => ee = .returned (mt 0 0 none 0 0 false) ∧ Below w.heap.size w w' := by
  have HA := hid hA
  have HB := hid hB
  have HN := hid hn
  have HM := hid hm
  have HO := hid hok
  clear hA hB hn hm hok
  go_enter Try.func38, Try.ntmps38
  go_wp2_with (fail)
  refine (vm_s_f (xs := xs) HO.out ?_ HN.out).mono ?_
  · exact HA.out.mono (by (repeat' (first | (with_reducible exact Below.refl _ _) | (with_reducible assumption) | (with_reducible refine Below.alloc ?_ ?_ _) | (with_reducible refine Below.drew ?_) | (with_reducible refine below_drewN ?_ _) | (with_reducible refine Below.setCell ?_ ?_ _) | (with_reducible refine chain ?_ (by assumption) ?_) | omega | (simp; done) | (simp; omega))))
  rintro ee w1 ⟨rfl, hb1⟩
  have hw1 : Below w.heap.size w w1 := by (repeat' (first | (with_reducible exact Below.refl _ _) | (with_reducible assumption) | (with_reducible refine Below.alloc ?_ ?_ _) | (with_reducible refine Below.drew ?_) | (with_reducible refine below_drewN ?_ _) | (with_reducible refine Below.setCell ?_ ?_ _) | (with_reducible refine chain ?_ (by assumption) ?_) | omega | (simp; done) | (simp; omega)))
  obtain ⟨hc1, hf1, _⟩ := bcell hb1; have hz1 := hb1.size; (try simp at hz1); (try have hx10 : w.heap.size < w1.heap.size := (by omega)); (try have hx11 : w.heap.size + 1 < w1.heap.size := (by omega)); (try have hx12 : w.heap.size + 1 + 1 < w1.heap.size := (by omega)); (try have hx13 : w.heap.size + 1 + 1 + 1 < w1.heap.size := (by omega))
  go_wp2_with (fail)
  refine bodyPost_ret (v := mt 0 0 none 0 0 false) (by first | (simp [results, Try.results38, go_sem, *]; done) | (simp (disch := (first | omega | (simp; done) | (simp; omega))) [results, Try.results38, go_sem, *]; done) | (simp only [results, Try.results38]; go_simp; done)) rfl ⟨rfl, ?_⟩
  (repeat' (first | (with_reducible exact Below.refl _ _) | (with_reducible assumption) | (with_reducible refine Below.alloc ?_ ?_ _) | (with_reducible refine Below.drew ?_) | (with_reducible refine below_drewN ?_ _) | (with_reducible refine Below.setCell ?_ ?_ _) | (with_reducible refine chain ?_ (by assumption) ?_) | omega | (simp; done) | (simp; omega)))

set_option maxRecDepth 100000 in
set_option maxHeartbeats 4000000 in
theorem kr_s_v2 {r c r' c' : Int} {A B : Option Addr} {n m cp cp' : Nat} {xs ys : List D5} {w : World} (hA : Rd w A xs) (hB : Rd w B ys) (hn : xs.length = n) (hm : ys.length = m) (hok : okM r c n xs = true) (hok2 : okM r' c' m ys = false) :
    Calls Try.prog 38 #[mv r c A n cp, mv r' c' B m cp'] w fun ee w' => ee = .returned (mt 0 0 none 0 0 false) ∧ Below w.heap.size w w' := by
  have HA := hid hA
  have HB := hid hB
  have HN := hid hn
  have HM := hid hm
  have HO := hid hok
  have HP := hid hok2
  clear hA hB hn hm hok hok2
  go_enter Try.func38, Try.ntmps38
  go_wp2_with (fail)
  refine (vm_s_t (xs := xs) HO.out ?_ HN.out).mono ?_
  · exact HA.out.mono (by (repeat' (first | (with_reducible exact Below.refl _ _) | (with_reducible assumption) | (with_reducible refine Below.alloc ?_ ?_ _) | (with_reducible refine Below.drew ?_) | (with_reducible refine below_drewN ?_ _) | (with_reducible refine Below.setCell ?_ ?_ _) | (with_reducible refine chain ?_ (by assumption) ?_) | omega | (simp; done) | (simp; omega))))
  rintro ee w1 ⟨rfl, hb1⟩
  have hw1 : Below w.heap.size w w1 := by (repeat' (first | (with_reducible exact Below.refl _ _) | (with_reducible assumption) | (with_reducible refine Below.alloc ?_ ?_ _) | (with_reducible refine Below.drew ?_) | (with_reducible refine below_drewN ?_ _) | (with_reducible refine Below.setCell ?_ ?_ _) | (with_reducible refine chain ?_ (by assumption) ?_) | omega | (simp; done) | (simp; omega)))
  obtain ⟨hc1, hf1, _⟩ := bcell hb1; have hz1 := hb1.size; (try simp at hz1); (try have hx10 : w.heap.size < w1.heap.size := (by omega)); (try have hx11 : w.heap.size + 1 < w1.heap.size := (by omega)); (try have hx12 : w.heap.size + 1 + 1 < w1.heap.size := (by omega)); (try have hx13 : w.heap.size + 1 + 1 + 1 < w1.heap.size := (by omega))
  go_wp2_with (fail)
  refine (vm_s_f (xs := ys) HP.out ?_ HM.out).mono ?_
  · exact HB.out.mono (by (repeat' (first | (with_reducible exact Below.refl _ _) | (with_reducible assumption) | (with_reducible refine Below.alloc ?_ ?_ _) | (with_reducible refine Below.drew ?_) | (with_reducible refine below_drewN ?_ _) | (with_reducible refine Below.setCell ?_ ?_ _) | (with_reducible refine chain ?_ (by assumption) ?_) | omega | (simp; done) | (simp; omega))))
  rintro ee w2 ⟨rfl, hb2⟩
  have hw2 : Below w.heap.size w w2 := by (repeat' (first | (with_reducible exact Below.refl _ _) | (with_reducible assumption) | (with_reducible refine Below.alloc ?_ ?_ _) | (with_reducible refine Below.drew ?_) | (with_reducible refine below_drewN ?_ _) | (with_reducible refine Below.setCell ?_ ?_ _) | (with_reducible refine chain ?_ (by assumption) ?_) | omega | (simp; done) | (simp; omega)))
  obtain ⟨hc2, hf2, _⟩ := bcell hb2; have hz2 := hb2.size; (try simp at hz2); (try have hx20 : w.heap.size < w2.heap.size := (by omega)); (try have hx21 : w.heap.size + 1 < w2.heap.size := (by omega)); (try have hx22 : w.heap.size + 1 + 1 < w2.heap.size := (by omega)); (try have hx23 : w.heap.size + 1 + 1 + 1 < w2.heap.size := (by omega))
  go_wp2_with (fail)
  refine bodyPost_ret (v := mt 0 0 none 0 0 false) (by first | (simp [results, Try.results38, go_sem, *]; done) | (simp (disch := (first | omega | (simp; done) | (simp; omega))) [results, Try.results38, go_sem, *]; done) | (simp only [results, Try.results38]; go_simp; done)) rfl ⟨rfl, ?_⟩
  (repeat' (first | (with_reducible exact Below.refl _ _) | (with_reducible assumption) | (with_reducible refine Below.alloc ?_ ?_ _) | (with_reducible refine Below.drew ?_) | (with_reducible refine below_drewN ?_ _) | (with_reducible refine Below.setCell ?_ ?_ _) | (with_reducible refine chain ?_ (by assumption) ?_) | omega | (simp; done) | (simp; omega)))

set_option maxRecDepth 100000 in
set_option maxHeartbeats 4000000 in
theorem kr_i_v1 {r c r' c' : Int} {g0 h0 n m cp cp' : Nat} {xs ys : List D5} {w : World} (hA : Rd w (some ⟨g0, 0, none⟩) xs) (hB : Rd w (some ⟨h0, 0, none⟩) ys) (hn : xs.length = n) (hm : ys.length = m) (hok : okM r c n xs = false) :
    Calls Try.prog 27 #[mv r c (some ⟨g0, 0, none⟩) n cp, mv r' c' (some ⟨h0, 0, none⟩) m cp'] w fun ee w' => ee = .returned (mt 0 0 none 0 0 false) ∧ Below w.heap.size w w' := by
  have HA := hid hA
  have HB := hid hB
  have HN := hid hn
  have HM := hid hm
  have HO := hid hok
  clear hA hB hn hm hok
  go_enter Try.func27, Try.ntmps27
  go_wp2_with (fail)
  refine (vm_i_f (xs := xs) HO.out ?_ HN.out).mono ?_
  · exact HA.out.mono (by (repeat' (first | (with_reducible exact Below.refl _ _) | (with_reducible assumption) | (with_reducible refine Below.alloc ?_ ?_ _) | (with_reducible refine Below.drew ?_) | (with_reducible refine below_drewN ?_ _) | (with_reducible refine Below.setCell ?_ ?_ _) | (with_reducible refine chain ?_ (by assumption) ?_) | omega | (simp; done) | (simp; omega))))
  rintro ee w1 ⟨rfl, hb1⟩
  have hw1 : Below w.heap.size w w1 := by (repeat' (first | (with_reducible exact Below.refl _ _) | (with_reducible assumption) | (with_reducible refine Below.alloc ?_ ?_ _) | (with_reducible refine Below.drew ?_) | (with_reducible refine below_drewN ?_ _) | (with_reducible refine Below.setCell ?_ ?_ _) | (with_reducible refine chain ?_ (by assumption) ?_) | omega | (simp; done) | (simp; omega)))
  obtain ⟨hc1, hf1, _⟩ := bcell hb1; have hz1 := hb1.size; (try simp at hz1); (try have hx10 : w.heap.size < w1.heap.size := (by omega)); (try have hx11 : w.heap.size + 1 < w1.heap.size := (by omega)); (try have hx12 : w.heap.size + 1 + 1 < w1.heap.size := (by omega)); (try have hx13 : w.heap.size + 1 + 1 + 1 < w1.heap.size := (by omega))
  go_wp2_with (fail)
  refine bodyPost_ret (v := mt 0 0 none 0 0 false) (by first | (simp [results, Try.results27, go_sem, *]; done) | (simp (disch := (first | omega | (simp; done) | (simp; omega))) [results, Try.results27, go_sem, *]; done) | (simp only [results, Try.results27]; go_simp; done)) rfl ⟨rfl, ?_⟩
  (repeat' (first | (with_reducible exact Below.refl _ _) | (with_reducible assumption) | (with_reducible refine Below.alloc ?_ ?_ _) | (with_reducible refine Below.drew ?_) | (with_reducible refine below_drewN ?_ _) | (with_reducible refine Below.setCell ?_ ?_ _) | (with_reducible refine chain ?_ (by assumption) ?_) | omega | (simp; done) | (simp; omega)))

set_option maxRecDepth 100000 in
set_option maxHeartbeats 4000000 in
theorem kr_i_v2 {r c r' c' : Int} {g0 h0 n m cp cp' : Nat} {xs ys : List D5} {w : World} (hA : Rd w (some ⟨g0, 0, none⟩) xs) (hB : Rd w (some ⟨h0, 0, none⟩) ys) (hn : xs.length = n) (hm : ys.length = m) (hok : okM r c n xs = true) (hok2 : okM r' c' m ys = false) :
    Calls Try.prog 27 #[mv r c (some ⟨g0, 0, none⟩) n cp, mv r' c' (some ⟨h0, 0, none⟩) m cp'] w fun ee w' => ee = .returned (mt 0 0 none 0 0 false) ∧ Below w.heap.size w w' := by
  have HA := hid hA
  have HB := hid hB
  have HN := hid hn
  have HM := hid hm
  have HO := hid hok
  have HP := hid hok2
  clear hA hB hn hm hok hok2
  go_enter Try.func27, Try.ntmps27
  go_wp2_with (fail)
  refine (vm_i_t (xs := xs) HO.out ?_ HN.out).mono ?_
  · exact HA.out.mono (by (repeat' (first | (with_reducible exact Below.refl _ _) | (with_reducible assumption) | (with_reducible refine Below.alloc ?_ ?_ _) | (with_reducible refine Below.drew ?_) | (with_reducible refine below_drewN ?_ _) | (with_reducible refine Below.setCell ?_ ?_ _) | (with_reducible refine chain ?_ (by assumption) ?_) | omega | (simp; done) | (simp; omega))))
  rintro ee w1 ⟨rfl, hb1⟩
  have hw1 : Below w.heap.size w w1 := by (repeat' (first | (with_reducible exact Below.refl _ _) | (with_reducible assumption) | (with_reducible refine Below.alloc ?_ ?_ _) | (with_reducible refine Below.drew ?_) | (with_reducible refine below_drewN ?_ _) | (with_reducible refine Below.setCell ?_ ?_ _) | (with_reducible refine chain ?_ (by assumption) ?_) | omega | (simp; done) | (simp; omega)))
  obtain ⟨hc1, hf1, _⟩ := bcell hb1; have hz1 := hb1.size; (try simp at hz1); (try have hx10 : w.heap.size < w1.heap.size := (by omega)); (try have hx11 : w.heap.size + 1 < w1.heap.size := (by omega)); (try have hx12 : w.heap.size + 1 + 1 < w1.heap.size := (by omega)); (try have hx13 : w.heap.size + 1 + 1 + 1 < w1.heap.size := (by omega))
  go_wp2_with (fail)
  refine (vm_i_f (xs := ys) HP.out ?_ HM.out).mono ?_
  · exact HB.out.mono (by (repeat' (first | (with_reducible exact Below.refl _ _) | (with_reducible assumption) | (with_reducible refine Below.alloc ?_ ?_ _) | (with_reducible refine Below.drew ?_) | (with_reducible refine below_drewN ?_ _) | (with_reducible refine Below.setCell ?_ ?_ _) | (with_reducible refine chain ?_ (by assumption) ?_) | omega | (simp; done) | (simp; omega))))
  rintro ee w2 ⟨rfl, hb2⟩
  have hw2 : Below w.heap.size w w2 := by (repeat' (first | (with_reducible exact Below.refl _ _) | (with_reducible assumption) | (with_reducible refine Below.alloc ?_ ?_ _) | (with_reducible refine Below.drew ?_) | (with_reducible refine below_drewN ?_ _) | (with_reducible refine Below.setCell ?_ ?_ _) | (with_reducible refine chain ?_ (by assumption) ?_) | omega | (simp; done) | (simp; omega)))
  obtain ⟨hc2, hf2, _⟩ := bcell hb2; have hz2 := hb2.size; (try simp at hz2); (try have hx20 : w.heap.size < w2.heap.size := (by omega)); (try have hx21 : w.heap.size + 1 < w2.heap.size := (by omega)); (try have hx22 : w.heap.size + 1 + 1 < w2.heap.size := (by omega)); (try have hx23 : w.heap.size + 1 + 1 + 1 < w2.heap.size := (by omega))
  go_wp2_with (fail)
  refine bodyPost_ret (v := mt 0 0 none 0 0 false) (by first | (simp [results, Try.results27, go_sem, *]; done) | (simp (disch := (first | omega | (simp; done) | (simp; omega))) [results, Try.results27, go_sem, *]; done) | (simp only [results, Try.results27]; go_simp; done)) rfl ⟨rfl, ?_⟩
  (repeat' (first | (with_reducible exact Below.refl _ _) | (with_reducible assumption) | (with_reducible refine Below.alloc ?_ ?_ _) | (with_reducible refine Below.drew ?_) | (with_reducible refine below_drewN ?_ _) | (with_reducible refine Below.setCell ?_ ?_ _) | (with_reducible refine chain ?_ (by assumption) ?_) | omega | (simp; done) | (simp; omega)))

set_option maxRecDepth 100000 in
set_option maxHeartbeats 4000000 in
theorem kr_s_p {ra ca rb cb P Q : Nat} {g0 h0 n m cp cp' : Nat} {xs ys : List D5} {w : World} (hA : Rd w (some ⟨g0, 0, none⟩) xs) (hB : Rd w (some ⟨h0, 0, none⟩) ys) (hn : xs.length = n) (hm : ys.length = m) (hok : okM (ra : Int) (ca : Int) n xs = true) (hok2 : okM (rb : Int) (cb : Int) m ys = true) (hP : P = ra * rb) (hd : 32 < P) :
    Calls Try.prog 38 #[mv (ra : Int) (ca : Int) (some ⟨g0, 0, none⟩) n cp, mv (rb : Int) (cb : Int) (some ⟨h0, 0, none⟩) m cp'] w fun ee w' => ee = .returned (mt 0 0 none 0 0 false) ∧ Below w.heap.size w w' := by
  obtain ⟨hnn, a1, a2, a3, a4, a5⟩ := okM_nat2 hok
  obtain ⟨hmm, b1, b2, b3, b4, b5⟩ := okM_nat2 hok2
  have pe : (ra : Int) * (rb : Int) = (P : Int) := by rw [hP]; simp
  have pb : P ≤ 32 * 32 := by rw [hP]; exact Nat.mul_le_mul a2 b2
  have pw : IntKind.i64.wrap (P : Int) = (P : Int) := IntWalk.i64_in _ (by omega)
  have HA := hid hA
  have HB := hid hB
  have HN := hid hn
  have HM := hid hm
  have HO := hid hok
  have HP := hid hok2
  have HNN := hid hnn
  have HMM := hid hmm
  have EP := hid hP
  clear hA hB hn hm hok hok2 hnn hmm hP
  go_enter Try.func38, Try.ntmps38
  go_wp2_with (fail)
  refine (vm_s_t (xs := xs) HO.out ?_ HN.out).mono ?_
  · exact HA.out.mono (by (repeat' (first | (with_reducible exact Below.refl _ _) | (with_reducible assumption) | (with_reducible refine Below.alloc ?_ ?_ _) | (with_reducible refine Below.drew ?_) | (with_reducible refine below_drewN ?_ _) | (with_reducible refine Below.setCell ?_ ?_ _) | (with_reducible refine chain ?_ (by assumption) ?_) | omega | (simp; done) | (simp; omega))))
  rintro ee w1 ⟨rfl, hb1⟩
  obtain ⟨hc1, hf1, _⟩ := bcell hb1; have hz1 := hb1.size; (try simp at hz1); (try have hx10 : w.heap.size < w1.heap.size := (by omega)); (try have hx11 : w.heap.size + 1 < w1.heap.size := (by omega)); (try have hx12 : w.heap.size + 1 + 1 < w1.heap.size := (by omega)); (try have hx13 : w.heap.size + 1 + 1 + 1 < w1.heap.size := (by omega))
  have Xa1 : Hid (Bx w1 (w.heap.size) 26 #[.int .i64 (ra : Int), .int .i64 (ca : Int), .slice (some ⟨g0, 0, none⟩) n cp]) := by show Bx _ _ _ _; (repeat' (first | (with_reducible assumption) | (refine Bx.new (by first | (with_reducible rfl) | (simp; done))) | (with_reducible refine Bx.alloc ?_ _) | (with_reducible refine Bx.drew ?_) | (with_reducible refine Bx.drewN ?_ _) | (with_reducible refine Bx.mono ?_ (by assumption)) | (with_reducible refine Bx.badly ?_ (by assumption) (by omega)) | (with_reducible refine Bx.far ?_ (by (try simp only [World.size_alloc, World.size_drew]); omega)) | (with_reducible refine Bx.set ?_ rfl) | (with_reducible refine Bx.grown ?_ (by assumption) (by assumption))))
  have Xb1 : Hid (Bx w1 (w.heap.size + 1) 26 #[.int .i64 (rb : Int), .int .i64 (cb : Int), .slice (some ⟨h0, 0, none⟩) m cp']) := by show Bx _ _ _ _; (repeat' (first | (with_reducible assumption) | (refine Bx.new (by first | (with_reducible rfl) | (simp; done))) | (with_reducible refine Bx.alloc ?_ _) | (with_reducible refine Bx.drew ?_) | (with_reducible refine Bx.drewN ?_ _) | (with_reducible refine Bx.mono ?_ (by assumption)) | (with_reducible refine Bx.badly ?_ (by assumption) (by omega)) | (with_reducible refine Bx.far ?_ (by (try simp only [World.size_alloc, World.size_drew]); omega)) | (with_reducible refine Bx.set ?_ rfl) | (with_reducible refine Bx.grown ?_ (by assumption) (by assumption))))
  have Xz1 : Hid (Bx w1 (w.heap.size + 1 + 1) 26 #[.int .i64 0, .int .i64 0, .slice none 0 0]) := by show Bx _ _ _ _; (repeat' (first | (with_reducible assumption) | (refine Bx.new (by first | (with_reducible rfl) | (simp; done))) | (with_reducible refine Bx.alloc ?_ _) | (with_reducible refine Bx.drew ?_) | (with_reducible refine Bx.drewN ?_ _) | (with_reducible refine Bx.mono ?_ (by assumption)) | (with_reducible refine Bx.badly ?_ (by assumption) (by omega)) | (with_reducible refine Bx.far ?_ (by (try simp only [World.size_alloc, World.size_drew]); omega)) | (with_reducible refine Bx.set ?_ rfl) | (with_reducible refine Bx.grown ?_ (by assumption) (by assumption))))
  have hw1 : Below w.heap.size w w1 := by (repeat' (first | (with_reducible exact Below.refl _ _) | (with_reducible assumption) | (with_reducible refine Below.alloc ?_ ?_ _) | (with_reducible refine Below.drew ?_) | (with_reducible refine below_drewN ?_ _) | (with_reducible refine Below.setCell ?_ ?_ _) | (with_reducible refine chain ?_ (by assumption) ?_) | omega | (simp; done) | (simp; omega)))
  go_wp2_with (fail)
  refine (vm_s_t (xs := ys) HP.out ?_ HM.out).mono ?_
  · exact HB.out.mono (by (repeat' (first | (with_reducible exact Below.refl _ _) | (with_reducible assumption) | (with_reducible refine Below.alloc ?_ ?_ _) | (with_reducible refine Below.drew ?_) | (with_reducible refine below_drewN ?_ _) | (with_reducible refine Below.setCell ?_ ?_ _) | (with_reducible refine chain ?_ (by assumption) ?_) | omega | (simp; done) | (simp; omega))))
  rintro ee w2 ⟨rfl, hb2⟩
  have hz2 := hb2.size
  have hw2 : Below w.heap.size w w2 := chain hw1 hb2 hw1.size
  have Ya2 := hid (Xa1.out.mono hb2)
  have ca0 := Ya2.out.c 0 rfl
  have ca1 := Ya2.out.c 1 rfl
  have ca2 := Ya2.out.c 2 rfl
  have fa := Ya2.out.f
  have la := Ya2.out.lt
  have Yb2 := hid (Xb1.out.mono hb2)
  have cb0 := Yb2.out.c 0 rfl
  have cb1 := Yb2.out.c 1 rfl
  have cb2 := Yb2.out.c 2 rfl
  have fb := Yb2.out.f
  have lb := Yb2.out.lt
  have Yz2 := hid (Xz1.out.mono hb2)
  have cz0 := Yz2.out.c 0 rfl
  have cz1 := Yz2.out.c 1 rfl
  have cz2 := Yz2.out.c 2 rfl
  have fz := Yz2.out.f
  have lz := Yz2.out.lt
  clear Xa1 Xb1 Xz1
  go_wp2_with (fail)
  refine bodyPost_ret (v := mt 0 0 none 0 0 false) (by first | (simp [results, Try.results38, go_sem, *]; done) | (simp (disch := (first | omega | (simp; done) | (simp; omega))) [results, Try.results38, go_sem, *]; done) | (simp only [results, Try.results38]; go_simp; done)) rfl ⟨rfl, ?_⟩
  have hBq := hw2.size
  (repeat' (first | (with_reducible exact Below.refl _ _) | (with_reducible assumption) | (with_reducible refine Below.alloc ?_ ?_ _) | (with_reducible refine Below.drew ?_) | (with_reducible refine below_drewN ?_ _) | (with_reducible refine Below.setCell ?_ ?_ _) | (with_reducible refine chain ?_ (by assumption) ?_) | omega | (simp; done) | (simp; omega)))

set_option maxRecDepth 100000 in
set_option maxHeartbeats 4000000 in
theorem kr_s_q {ra ca rb cb P Q : Nat} {g0 h0 n m cp cp' : Nat} {xs ys : List D5} {w : World} (hA : Rd w (some ⟨g0, 0, none⟩) xs) (hB : Rd w (some ⟨h0, 0, none⟩) ys) (hn : xs.length = n) (hm : ys.length = m) (hok : okM (ra : Int) (ca : Int) n xs = true) (hok2 : okM (rb : Int) (cb : Int) m ys = true) (hP : P = ra * rb) (hp : P ≤ 32) (hQ : Q = ca * cb) (hd2 : 32 < Q) :
    Calls Try.prog 38 #[mv (ra : Int) (ca : Int) (some ⟨g0, 0, none⟩) n cp, mv (rb : Int) (cb : Int) (some ⟨h0, 0, none⟩) m cp'] w fun ee w' => ee = .returned (mt 0 0 none 0 0 false) ∧ Below w.heap.size w w' := by
  obtain ⟨hnn, a1, a2, a3, a4, a5⟩ := okM_nat2 hok
  obtain ⟨hmm, b1, b2, b3, b4, b5⟩ := okM_nat2 hok2
  have pe : (ra : Int) * (rb : Int) = (P : Int) := by rw [hP]; simp
  have pb : P ≤ 32 * 32 := by rw [hP]; exact Nat.mul_le_mul a2 b2
  have pw : IntKind.i64.wrap (P : Int) = (P : Int) := IntWalk.i64_in _ (by omega)
  have qe : (ca : Int) * (cb : Int) = (Q : Int) := by rw [hQ]; simp
  have qb : Q ≤ 32 * 32 := by rw [hQ]; exact Nat.mul_le_mul a4 b4
  have qw : IntKind.i64.wrap (Q : Int) = (Q : Int) := IntWalk.i64_in _ (by omega)
  have EQ := hid hQ
  clear hQ
  have HA := hid hA
  have HB := hid hB
  have HN := hid hn
  have HM := hid hm
  have HO := hid hok
  have HP := hid hok2
  have HNN := hid hnn
  have HMM := hid hmm
  have EP := hid hP
  clear hA hB hn hm hok hok2 hnn hmm hP
  go_enter Try.func38, Try.ntmps38
  go_wp2_with (fail)
  refine (vm_s_t (xs := xs) HO.out ?_ HN.out).mono ?_
  · exact HA.out.mono (by (repeat' (first | (with_reducible exact Below.refl _ _) | (with_reducible assumption) | (with_reducible refine Below.alloc ?_ ?_ _) | (with_reducible refine Below.drew ?_) | (with_reducible refine below_drewN ?_ _) | (with_reducible refine Below.setCell ?_ ?_ _) | (with_reducible refine chain ?_ (by assumption) ?_) | omega | (simp; done) | (simp; omega))))
  rintro ee w1 ⟨rfl, hb1⟩
  obtain ⟨hc1, hf1, _⟩ := bcell hb1; have hz1 := hb1.size; (try simp at hz1); (try have hx10 : w.heap.size < w1.heap.size := (by omega)); (try have hx11 : w.heap.size + 1 < w1.heap.size := (by omega)); (try have hx12 : w.heap.size + 1 + 1 < w1.heap.size := (by omega)); (try have hx13 : w.heap.size + 1 + 1 + 1 < w1.heap.size := (by omega))
  have Xa1 : Hid (Bx w1 (w.heap.size) 26 #[.int .i64 (ra : Int), .int .i64 (ca : Int), .slice (some ⟨g0, 0, none⟩) n cp]) := by show Bx _ _ _ _; (repeat' (first | (with_reducible assumption) | (refine Bx.new (by first | (with_reducible rfl) | (simp; done))) | (with_reducible refine Bx.alloc ?_ _) | (with_reducible refine Bx.drew ?_) | (with_reducible refine Bx.drewN ?_ _) | (with_reducible refine Bx.mono ?_ (by assumption)) | (with_reducible refine Bx.badly ?_ (by assumption) (by omega)) | (with_reducible refine Bx.far ?_ (by (try simp only [World.size_alloc, World.size_drew]); omega)) | (with_reducible refine Bx.set ?_ rfl) | (with_reducible refine Bx.grown ?_ (by assumption) (by assumption))))
  have Xb1 : Hid (Bx w1 (w.heap.size + 1) 26 #[.int .i64 (rb : Int), .int .i64 (cb : Int), .slice (some ⟨h0, 0, none⟩) m cp']) := by show Bx _ _ _ _; (repeat' (first | (with_reducible assumption) | (refine Bx.new (by first | (with_reducible rfl) | (simp; done))) | (with_reducible refine Bx.alloc ?_ _) | (with_reducible refine Bx.drew ?_) | (with_reducible refine Bx.drewN ?_ _) | (with_reducible refine Bx.mono ?_ (by assumption)) | (with_reducible refine Bx.badly ?_ (by assumption) (by omega)) | (with_reducible refine Bx.far ?_ (by (try simp only [World.size_alloc, World.size_drew]); omega)) | (with_reducible refine Bx.set ?_ rfl) | (with_reducible refine Bx.grown ?_ (by assumption) (by assumption))))
  have Xz1 : Hid (Bx w1 (w.heap.size + 1 + 1) 26 #[.int .i64 0, .int .i64 0, .slice none 0 0]) := by show Bx _ _ _ _; (repeat' (first | (with_reducible assumption) | (refine Bx.new (by first | (with_reducible rfl) | (simp; done))) | (with_reducible refine Bx.alloc ?_ _) | (with_reducible refine Bx.drew ?_) | (with_reducible refine Bx.drewN ?_ _) | (with_reducible refine Bx.mono ?_ (by assumption)) | (with_reducible refine Bx.badly ?_ (by assumption) (by omega)) | (with_reducible refine Bx.far ?_ (by (try simp only [World.size_alloc, World.size_drew]); omega)) | (with_reducible refine Bx.set ?_ rfl) | (with_reducible refine Bx.grown ?_ (by assumption) (by assumption))))
  have hw1 : Below w.heap.size w w1 := by (repeat' (first | (with_reducible exact Below.refl _ _) | (with_reducible assumption) | (with_reducible refine Below.alloc ?_ ?_ _) | (with_reducible refine Below.drew ?_) | (with_reducible refine below_drewN ?_ _) | (with_reducible refine Below.setCell ?_ ?_ _) | (with_reducible refine chain ?_ (by assumption) ?_) | omega | (simp; done) | (simp; omega)))
  go_wp2_with (fail)
  refine (vm_s_t (xs := ys) HP.out ?_ HM.out).mono ?_
  · exact HB.out.mono (by (repeat' (first | (with_reducible exact Below.refl _ _) | (with_reducible assumption) | (with_reducible refine Below.alloc ?_ ?_ _) | (with_reducible refine Below.drew ?_) | (with_reducible refine below_drewN ?_ _) | (with_reducible refine Below.setCell ?_ ?_ _) | (with_reducible refine chain ?_ (by assumption) ?_) | omega | (simp; done) | (simp; omega))))
  rintro ee w2 ⟨rfl, hb2⟩
  have hz2 := hb2.size
  have hw2 : Below w.heap.size w w2 := chain hw1 hb2 hw1.size
  have Ya2 := hid (Xa1.out.mono hb2)
  have ca0 := Ya2.out.c 0 rfl
  have ca1 := Ya2.out.c 1 rfl
  have ca2 := Ya2.out.c 2 rfl
  have fa := Ya2.out.f
  have la := Ya2.out.lt
  have Yb2 := hid (Xb1.out.mono hb2)
  have cb0 := Yb2.out.c 0 rfl
  have cb1 := Yb2.out.c 1 rfl
  have cb2 := Yb2.out.c 2 rfl
  have fb := Yb2.out.f
  have lb := Yb2.out.lt
  have Yz2 := hid (Xz1.out.mono hb2)
  have cz0 := Yz2.out.c 0 rfl
  have cz1 := Yz2.out.c 1 rfl
  have cz2 := Yz2.out.c 2 rfl
  have fz := Yz2.out.f
  have lz := Yz2.out.lt
  clear Xa1 Xb1 Xz1
  go_wp2_with (fail)
  refine bodyPost_ret (v := mt 0 0 none 0 0 false) (by first | (simp [results, Try.results38, go_sem, *]; done) | (simp (disch := (first | omega | (simp; done) | (simp; omega))) [results, Try.results38, go_sem, *]; done) | (simp only [results, Try.results38]; go_simp; done)) rfl ⟨rfl, ?_⟩
  have hBq := hw2.size
  (repeat' (first | (with_reducible exact Below.refl _ _) | (with_reducible assumption) | (with_reducible refine Below.alloc ?_ ?_ _) | (with_reducible refine Below.drew ?_) | (with_reducible refine below_drewN ?_ _) | (with_reducible refine Below.setCell ?_ ?_ _) | (with_reducible refine chain ?_ (by assumption) ?_) | omega | (simp; done) | (simp; omega)))

/-- what the model's product holds -/
def KM (w w' : World) (ee : Ending) (gc P Q N : Nat) (F : Nat → D5) (G : Nat → Bool) : Prop := ∃ (z : Bool) (zs : List D5) (Bo : Option Addr) (cq : Nat), ee = .returned (mv (P : Int) (Q : Int) Bo N cq) ∧ Sofar z zs N F G ∧ Rd w' Bo zs ∧ (∀ a, Bo = some a → w.heap.size ≤ a.block) ∧ Below w.heap.size (w.setCell ⟨gc, 0, none⟩ (.bool z)) w'
theorem KM.i {w w' : World} {ee : Ending} {gc P Q N : Nat} {F : Nat → D5} {G : Nat → Bool} {z : Bool} {zs : List D5} {Bo : Option Addr} {cq : Nat} (h1 : ee = .returned (mv (P : Int) (Q : Int) Bo N cq)) (h2 : Sofar z zs N F G) (h3 : Rd w' Bo zs) (h4 : ∀ a, Bo = some a → w.heap.size ≤ a.block) (h5 : Below w.heap.size (w.setCell ⟨gc, 0, none⟩ (.bool z)) w') : KM w w' ee gc P Q N F G := ⟨z, zs, Bo, cq, h1, h2, h3, h4, h5⟩
set_option maxRecDepth 100000 in
set_option maxHeartbeats 8000000 in
theorem krm {ra ca rb cb P Q : Nat} {g0 h0 n m cp cp' : Nat} {xs ys : List D5} {w : World} (hA : Rd w (some ⟨g0, 0, none⟩) xs) (hB : Rd w (some ⟨h0, 0, none⟩) ys) (hn : xs.length = n) (hm : ys.length = m) (hok : okM (ra : Int) (ca : Int) n xs = true) (hok2 : okM (rb : Int) (cb : Int) m ys = true) (hP : P = ra * rb) {N gc : Nat} (hQ : Q = ca * cb) (p32 : P ≤ 32) (q32 : Q ≤ 32) (hN9 : N = P * Q) (hc0 : Bx w gc 99 #[.bool false]) (hg : g0 < gc) (hh : h0 < gc) :
    Calls Try.prog 89 #[.pointer (some ⟨gc, 0, none⟩), mv (ra : Int) (ca : Int) (some ⟨g0, 0, none⟩) n cp, mv (rb : Int) (cb : Int) (some ⟨h0, 0, none⟩) m cp'] w fun ee w' => KM w w' ee gc P Q N (krF Q rb cb ca xs ys) (krG Q rb cb ca xs ys) := by
  obtain ⟨i0, hi0, hu0, hu1, hu2⟩ := info_parts infoD
  obtain ⟨hnn, a1, a2, a3, a4, a5⟩ := okM_nat2 hok
  obtain ⟨hmm, b1, b2, b3, b4, b5⟩ := okM_nat2 hok2
  have pe : (ra : Int) * (rb : Int) = (P : Int) := by rw [hP]; simp
  have pb : P ≤ 32 * 32 := by rw [hP]; exact Nat.mul_le_mul a2 b2
  have pw : IntKind.i64.wrap (P : Int) = (P : Int) := IntWalk.i64_in _ (by omega)
  have qe : (ca : Int) * (cb : Int) = (Q : Int) := by rw [hQ]; simp
  have qb : Q ≤ 32 * 32 := by rw [hQ]; exact Nat.mul_le_mul a4 b4
  have qw : IntKind.i64.wrap (Q : Int) = (Q : Int) := IntWalk.i64_in _ (by omega)
  have n32 : N ≤ 1024 := by rw [hN9]; exact Nat.mul_le_mul p32 q32
  have EQ := hid hQ
  have EN := hid hN9
  have XC := hid hc0
  have hgc := hc0.lt
  clear hQ hN9 hc0
  have HA := hid hA
  have HB := hid hB
  have HN := hid hn
  have HM := hid hm
  have HO := hid hok
  have HP := hid hok2
  have HNN := hid hnn
  have HMM := hid hmm
  have EP := hid hP
  clear hA hB hn hm hok hok2 hnn hmm hP
  obtain ⟨F, hF⟩ : ∃ F, F = krF Q rb cb ca xs ys := ⟨_, rfl⟩
  obtain ⟨G, hG⟩ : ∃ G, G = krG Q rb cb ca xs ys := ⟨_, rfl⟩
  have HF := hid hF
  have HG := hid hG
  rw [← hF, ← hG]
  clear hF hG
  go_enter Try.func89, Try.ntmps89
  go_wp2_with (fail)
  go_loopg [8] P (fun q s1 wr => ∃ (i : Nat) (v : Value) (z : Bool) (zs : List D5), i + q = P ∧ s1 = .int .i64 (i : Int) ∧ Hid (Bx wr (w.heap.size) 26 #[.int .i64 (ra : Int), .int .i64 (ca : Int), .slice (some ⟨g0, 0, none⟩) n cp]) ∧ Hid (Bx wr (w.heap.size + 1) 26 #[.int .i64 (rb : Int), .int .i64 (cb : Int), .slice (some ⟨h0, 0, none⟩) m cp']) ∧ Hid (Bx wr (w.heap.size + 1 + 1) 26 #[.int .i64 0, .int .i64 0, .slice none 0 0]) ∧ Hid (Bx wr (w.heap.size + 1 + 1 + 1) 26 #[.int .i64 (P : Int), .int .i64 (Q : Int), v]) ∧ Hid (Bx wr (gc) 99 #[.bool z]) ∧ Hid (Own5 wr (w.heap.size + 1 + 1 + 1 + 1) 37 v zs) ∧ Hid (Sofar z zs (i * Q) F G) ∧ w.heap.size + 1 + 1 + 1 + 1 ≤ wr.heap.size ∧ Hid (Below w.heap.size (w.setCell ⟨gc, 0, none⟩ (.bool z)) wr))
  case atStart =>
    have RC := XC.out
    refine ⟨0, .slice none 0 0, false, [], by omega, rfl, (by show Bx _ _ _ _; exact (((Bx.new rfl).alloc _).alloc _).alloc _), (by show Bx _ _ _ _; exact ((Bx.new (by simp)).alloc _).alloc _), (by show Bx _ _ _ _; exact (Bx.new (by simp)).alloc _), (by show Bx _ _ _ _; exact Bx.new (by simp)), (by show Bx _ _ _ _; exact (((RC.alloc _).alloc _).alloc _).alloc _), Own5.nil _ _ _, ?_, by simp, ?_⟩
    · show Sofar _ _ _ _ _
      rw [Nat.zero_mul]; exact Sofar.start _ _
    · show Below _ _ _
      have h0 := bad_0 (B := w.heap.size) (RC.c 0 rfl)
      exact (((h0.alloc (Nat.le_refl _) _).alloc (by simp) _).alloc (by simp; omega) _).alloc (by simp; omega) _
  case round =>
    obtain ⟨i, v, z, zs, hi, rfl, Xa, Xb, Xz, Xo, Xf, HOw, HS, hsz, HBo⟩ := hrel
    clear XC
    have hBq := HBo.out.size
    rw [World.size_setCell] at hBq
    have ca0 := Xa.out.c 0 rfl
    have ca1 := Xa.out.c 1 rfl
    have ca2 := Xa.out.c 2 rfl
    have la := Xa.out.lt
    have cb0 := Xb.out.c 0 rfl
    have cb1 := Xb.out.c 1 rfl
    have cb2 := Xb.out.c 2 rfl
    have lb := Xb.out.lt
    have cz0 := Xz.out.c 0 rfl
    have cz1 := Xz.out.c 1 rfl
    have cz2 := Xz.out.c 2 rfl
    have lz := Xz.out.lt
    have fz := Xz.out.f
    have co0 := Xo.out.c 0 rfl
    have co1 := Xo.out.c 1 rfl
    have co2 := Xo.out.c 2 rfl
    have lo := Xo.out.lt
    have fo := Xo.out.f
    have cf0 := Xf.out.c 0 rfl
    have lf := Xf.out.lt
    have ff := Xf.out.f
    cases gk with
    | zero =>
      obtain rfl : i = P := by omega
      obtain ⟨Bo, cq, hv, hRd, hBa⟩ := HOw.out.form
      rw [HS.out.1, ← EN.out] at hv
      subst hv
      have HBa := hid hBa
      have HRd := hid hRd
      clear hRd hBa
      go_wp2_with (fail)
      refine bodyPost_ret (v := mv (i : Int) (Q : Int) Bo N cq) (by first | (simp [results, Try.results89, go_sem, *]; done) | (simp (disch := (first | omega | (simp; done) | (simp; omega))) [results, Try.results89, go_sem, *]; done) | (simp only [results, Try.results89]; go_simp; done)) rfl (KM.i (z := z) (zs := zs) rfl ?_ ?_ ?_ ?_)
      · rw [EN.out]; exact HS.out
      · (repeat' (first | exact HRd.out | refine Rd.far ?_ (fun a ha => by have := (HBa.out a ha).1; show _ ≠ w.heap.size + 1 + 1; omega) _))
      · intro a ha; have := (HBa.out a ha).1; omega
      · have hB := HBo.out
        (repeat' (first | (with_reducible exact Below.refl _ _) | (with_reducible assumption) | (with_reducible refine Below.alloc ?_ ?_ _) | (with_reducible refine Below.drew ?_) | (with_reducible refine below_drewN ?_ _) | (with_reducible refine Below.setCell ?_ ?_ _) | (with_reducible refine chain ?_ (by assumption) ?_) | omega | (simp; done) | (simp; omega)))
    | succ m9 =>
      have hlti : i < P := by omega
      have i1 : (i : Int) < (P : Int) := by omega
      go_wp2_with (fail)
      go_loopg [9] Q (fun q s1 wr => ∃ (j : Nat) (v : Value) (z : Bool) (zs : List D5), j + q = Q ∧ s1 = .int .i64 (j : Int) ∧ Hid (Bx wr (w.heap.size) 26 #[.int .i64 (ra : Int), .int .i64 (ca : Int), .slice (some ⟨g0, 0, none⟩) n cp]) ∧ Hid (Bx wr (w.heap.size + 1) 26 #[.int .i64 (rb : Int), .int .i64 (cb : Int), .slice (some ⟨h0, 0, none⟩) m cp']) ∧ Hid (Bx wr (w.heap.size + 1 + 1) 26 #[.int .i64 0, .int .i64 0, .slice none 0 0]) ∧ Hid (Bx wr (w.heap.size + 1 + 1 + 1) 26 #[.int .i64 (P : Int), .int .i64 (Q : Int), v]) ∧ Hid (Bx wr (gc) 99 #[.bool z]) ∧ Hid (Own5 wr (w.heap.size + 1 + 1 + 1 + 1) 37 v zs) ∧ Hid (Sofar z zs (i * Q + j) F G) ∧ w.heap.size + 1 + 1 + 1 + 1 ≤ wr.heap.size ∧ Hid (Below w.heap.size (w.setCell ⟨gc, 0, none⟩ (.bool z)) wr))
      case atStart => exact ⟨0, v, z, zs, by omega, rfl, Xa, Xb, Xz, Xo, Xf, HOw, HS, hsz, HBo⟩
      case round =>
        clear Xa la ca0 ca1 ca2 Xb lb cb0 cb1 cb2 Xz lz cz0 cz1 cz2 fz Xo lo co0 co1 co2 fo Xf lf cf0 ff HOw HS hsz HBo hBq
        obtain ⟨j, v, z, zs, hj, rfl, Xa, Xb, Xz, Xo, Xf, HOw, HS, hsz, HBo⟩ := hrel
        have hBq := HBo.out.size
        rw [World.size_setCell] at hBq
        have ca0 := Xa.out.c 0 rfl
        have ca1 := Xa.out.c 1 rfl
        have ca2 := Xa.out.c 2 rfl
        have la := Xa.out.lt
        have cb0 := Xb.out.c 0 rfl
        have cb1 := Xb.out.c 1 rfl
        have cb2 := Xb.out.c 2 rfl
        have lb := Xb.out.lt
        have cz0 := Xz.out.c 0 rfl
        have cz1 := Xz.out.c 1 rfl
        have cz2 := Xz.out.c 2 rfl
        have lz := Xz.out.lt
        have fz := Xz.out.f
        have co0 := Xo.out.c 0 rfl
        have co1 := Xo.out.c 1 rfl
        have co2 := Xo.out.c 2 rfl
        have lo := Xo.out.lt
        have fo := Xo.out.f
        have cf0 := Xf.out.c 0 rfl
        have lf := Xf.out.lt
        have ff := Xf.out.f
        cases gk with
        | zero =>
          obtain rfl : j = Q := by omega
          go_wp2_with (fail)
          go_roundg m9
          case measure => omega
          case rel =>
            refine ⟨i + 1, v, z, zs, by omega, by go_num, Xa, Xb, Xz, Xo, Xf, HOw, ?_, hsz, HBo⟩
            show Sofar _ _ _ _ _
            rw [Nat.add_mul, Nat.one_mul]; exact HS.out
        | succ m2 =>
          have hltj : j < Q := by omega
          have j1 : (j : Int) < (Q : Int) := by omega
          have rb0 : ¬ (rb = 0) := by omega
          have cb0' : ¬ (cb = 0) := by omega
          obtain ⟨d, hd⟩ : ∃ d, d = i / rb := ⟨_, rfl⟩
          have dl : d ≤ i := by rw [hd]; first | exact Nat.div_le_self _ _ | exact Nat.mod_le _ _
          have dw : IntKind.i64.wrap (d : Int) = (d : Int) := IntWalk.i64_in _ (by omega)
          have d1 : (i : Int) / (rb : Int) = (d : Int) := by rw [hd]; simp
          have d2 : (i : Int).tdiv (rb : Int) = (d : Int) := by rw [hd]; rfl
          have d3 : IntKind.i64.wrap ((i : Int).tdiv (rb : Int)) = (d : Int) := by rw [d2]; exact dw
          obtain ⟨e, he⟩ : ∃ e, e = j / cb := ⟨_, rfl⟩
          have el : e ≤ j := by rw [he]; first | exact Nat.div_le_self _ _ | exact Nat.mod_le _ _
          have ew : IntKind.i64.wrap (e : Int) = (e : Int) := IntWalk.i64_in _ (by omega)
          have e1 : (j : Int) / (cb : Int) = (e : Int) := by rw [he]; simp
          have e2 : (j : Int).tdiv (cb : Int) = (e : Int) := by rw [he]; rfl
          have e3 : IntKind.i64.wrap ((j : Int).tdiv (cb : Int)) = (e : Int) := by rw [e2]; exact ew
          obtain ⟨p, hp⟩ : ∃ p, p = i % rb := ⟨_, rfl⟩
          have pl : p ≤ i := by rw [hp]; first | exact Nat.div_le_self _ _ | exact Nat.mod_le _ _
          have pw : IntKind.i64.wrap (p : Int) = (p : Int) := IntWalk.i64_in _ (by omega)
          have p1 : (i : Int) % (rb : Int) = (p : Int) := by rw [hp]; simp
          have p2 : (i : Int).tmod (rb : Int) = (p : Int) := by rw [hp]; rfl
          have p3 : IntKind.i64.wrap ((i : Int).tmod (rb : Int)) = (p : Int) := by rw [p2]; exact pw
          obtain ⟨q, hq⟩ : ∃ q, q = j % cb := ⟨_, rfl⟩
          have ql : q ≤ j := by rw [hq]; first | exact Nat.div_le_self _ _ | exact Nat.mod_le _ _
          have qw : IntKind.i64.wrap (q : Int) = (q : Int) := IntWalk.i64_in _ (by omega)
          have q1 : (j : Int) % (cb : Int) = (q : Int) := by rw [hq]; simp
          have q2 : (j : Int).tmod (cb : Int) = (q : Int) := by rw [hq]; rfl
          have q3 : IntKind.i64.wrap ((j : Int).tmod (cb : Int)) = (q : Int) := by rw [q2]; exact qw
          have hdl : d < ra := by rw [hd]; exact Nat.div_lt_of_lt_mul (by rw [Nat.mul_comm, ← EP.out]; exact hlti)
          have hel : e < ca := by rw [he]; exact Nat.div_lt_of_lt_mul (by rw [Nat.mul_comm, ← EQ.out]; exact hltj)
          have hpl : p < rb := by rw [hp]; exact Nat.mod_lt _ (by omega)
          have hql : q < cb := by rw [hq]; exact Nat.mod_lt _ (by omega)
          obtain ⟨sa, sa1, sa2, sa3, sa4⟩ := row_at HNN.out hdl
          obtain ⟨sb, sb1, sb2, sb3, sb4⟩ := row_at HMM.out hpl
          obtain ⟨u, hu⟩ : ∃ u, u = sa + e := ⟨_, rfl⟩
          obtain ⟨t, ht⟩ : ∃ t, t = sb + q := ⟨_, rfl⟩
          have hun : u < n := by omega
          have htm : t < m := by omega
          have hx := get_of (xs := xs) (q := u) (by rw [HN.out]; exact hun)
          have hy := get_of (xs := ys) (q := t) (by rw [HM.out]; exact htm)
          obtain ⟨x, hxe⟩ : ∃ x, x = xs.getD u z5 := ⟨_, rfl⟩
          obtain ⟨y, hye⟩ : ∃ y, y = ys.getD t z5 := ⟨_, rfl⟩
          rw [← hxe] at hx
          rw [← hye] at hy
          have hkx : krX Q rb cb ca xs (i * Q + j) = x := by unfold krX; rw [(divQ hltj).1, (divQ hltj).2, hxe, hu, sa4, hd, he]
          have hky : krY Q rb cb ys (i * Q + j) = y := by unfold krY; rw [(divQ hltj).1, (divQ hltj).2, hye, ht, sb4, hp, hq]
          have HE : Hid (F (i * Q + j) = (mulS false x y).1 ∧ G (i * Q + j) = (mulS false x y).2) := by
            show _ ∧ _
            rw [HF.out, HG.out]; unfold krF krG; rw [hkx, hky]; exact ⟨rfl, rfl⟩
          have HKx := hid (all_get (okM_iff.1 HO.out).2.2.2 hx)
          have HKy := hid (all_get (okM_iff.1 HP.out).2.2.2 hy)
          have hB0 := HBo.out
          have hCx := HA.out.cx hx
          have hCy := HB.out.cx hy
          have far0 : ∀ k, k < gc → wr.heap[k]? = w.heap[k]? := fun k hk => (hB0.block k (by omega)).trans (Below.heap_setCell _ _ _ _ (by show k ≠ gc; omega))
          obtain ⟨p0, p1, p2, p3, p4⟩ := hCx.at_ (far0 g0 hg)
          have HCy := hid (hCy.at_ (far0 h0 hh))
          have HX5 := hid (hCx.at_ (far0 g0 hg))
          have e2 : IntKind.i64.wrap (sa : Int) = (sa : Int) := IntWalk.i64_in _ (by omega)
          have e3 : IntKind.i64.wrap ((sa : Int) + (e : Int)) = (u : Int) := by rw [hu, Int.natCast_add]; exact IntWalk.i64_in _ (by omega)
          have e4 : (u : Int) < (n : Int) := by omega
          have e5 : IntKind.i64.wrap (sb : Int) = (sb : Int) := IntWalk.i64_in _ (by omega)
          have e6 : IntKind.i64.wrap ((sb : Int) + (q : Int)) = (t : Int) := by rw [ht, Int.natCast_add]; exact IntWalk.i64_in _ (by omega)
          have e7 : (t : Int) < (m : Int) := by omega
          have hl := HS.out.1
          have HL := hid hl
          have hvl := World.ownsRow.lt HOw.out
          have HVL := hid hvl
          clear hl far0 hCx hCy hB0 hx hy hxe hye hkx hky hd he hp hq hu ht sa2 sa4 sb2 sb4 hvl
          go_wp2_with (fail)
          go_cut [10] (fun s10 wx => ∃ b : Nat, s10 = .pointer (some ⟨b, 0, none⟩) ∧ wr.heap.size ≤ b ∧ Hid (Bx wx b 37 #[.int .i64 x.a, .int .i64 x.b, .int .i64 x.c, .int .i64 x.d, .int .i64 x.e]) ∧ Hid (Below wr.heap.size wr wx))
          case first =>
            have yca1 : wr.drew.cell? ⟨w.heap.size, 1, none⟩ = some (.int .i64 (ca : Int)) := ca1
            have yca2 : wr.drew.cell? ⟨w.heap.size, 2, none⟩ = some (.slice (some ⟨g0, 0, none⟩) n cp) := ca2
            have ycb0 : wr.drew.cell? ⟨w.heap.size + 1, 0, none⟩ = some (.int .i64 (rb : Int)) := cb0
            have ycb1 : wr.drew.cell? ⟨w.heap.size + 1, 1, none⟩ = some (.int .i64 (cb : Int)) := cb1
            have yp0 : wr.drew.cell? ⟨g0, u * 5, none⟩ = some (.int .i64 x.a) := p0
            have yp1 : wr.drew.cell? ⟨g0, u * 5 + 1, none⟩ = some (.int .i64 x.b) := p1
            have yp2 : wr.drew.cell? ⟨g0, u * 5 + 2, none⟩ = some (.int .i64 x.c) := p2
            have yp3 : wr.drew.cell? ⟨g0, u * 5 + 3, none⟩ = some (.int .i64 x.d) := p3
            have yp4 : wr.drew.cell? ⟨g0, u * 5 + 4, none⟩ = some (.int .i64 x.e) := p4
            refine wp_region_x (fun w' => w'.cell? ⟨w.heap.size, 1, none⟩ = some (.int .i64 (ca : Int)) ∧ w'.cell? ⟨w.heap.size, 2, none⟩ = some (.slice (some ⟨g0, 0, none⟩) n cp) ∧ w'.cell? ⟨w.heap.size + 1, 0, none⟩ = some (.int .i64 (rb : Int)) ∧ w'.cell? ⟨w.heap.size + 1, 1, none⟩ = some (.int .i64 (cb : Int)) ∧ w'.cell? ⟨g0, u * 5, none⟩ = some (.int .i64 x.a) ∧ w'.cell? ⟨g0, u * 5 + 1, none⟩ = some (.int .i64 x.b) ∧ w'.cell? ⟨g0, u * 5 + 2, none⟩ = some (.int .i64 x.c) ∧ w'.cell? ⟨g0, u * 5 + 3, none⟩ = some (.int .i64 x.d) ∧ w'.cell? ⟨g0, u * 5 + 4, none⟩ = some (.int .i64 x.e)) 17 (by kernel_rfl) ⟨yca1, yca2, ycb0, ycb1, yp0, yp1, yp2, yp3, yp4⟩ (fun hS0 => ?_)
            refine wpAnyX_take (i := 0) (oi := _) (v := ?_) rfl (by kernel_rfl) (by kernel_rfl) (by kernel_rfl) (by kernel_rfl) (fun _ _ _ h => h) (Or.inl ⟨by rfl, ?_⟩) hS0 ?_
            rotate_left 1
            · (intro w hSw; (try dsimp only at hSw); go_simp; (try with_reducible rfl))
            try simp only [Act.put, List.setIfInBounds_toArray, List.set_cons_zero, List.set_cons_succ]
            refine wpAnyX_take (i := 1) (oi := _) (v := ?_) rfl (by kernel_rfl) (by kernel_rfl) (by kernel_rfl) (by kernel_rfl) (fun _ _ _ h => h) (Or.inl ⟨by rfl, ?_⟩) hS0 ?_
            rotate_left 1
            · (intro w hSw; (try dsimp only at hSw); go_simp; (try with_reducible rfl))
            try simp only [Act.put, List.setIfInBounds_toArray, List.set_cons_zero, List.set_cons_succ]
            refine wpAnyX_take (i := 2) (oi := _) (v := ?_) rfl (by kernel_rfl) (by kernel_rfl) (by kernel_rfl) (by kernel_rfl) (fun _ _ _ h => h) (Or.inl ⟨by rfl, ?_⟩) hS0 ?_
            rotate_left 1
            · (intro w hSw; (try dsimp only at hSw); go_simp; (try with_reducible rfl))
            try simp only [Act.put, List.setIfInBounds_toArray, List.set_cons_zero, List.set_cons_succ]
            refine wpAnyX_take (i := 3) (oi := _) (v := ?_) rfl (by kernel_rfl) (by kernel_rfl) (by kernel_rfl) (by kernel_rfl) (fun _ _ _ h => h) (Or.inl ⟨by rfl, ?_⟩) hS0 ?_
            rotate_left 1
            · (intro w hSw; (try dsimp only at hSw); go_simp; (try with_reducible rfl))
            try simp only [Act.put, List.setIfInBounds_toArray, List.set_cons_zero, List.set_cons_succ]
            refine wpAnyX_take (i := 4) (oi := _) (v := ?_) rfl (by kernel_rfl) (by kernel_rfl) (by kernel_rfl) (by kernel_rfl) (fun _ _ _ h => h) (Or.inl ⟨by rfl, ?_⟩) hS0 ?_
            rotate_left 1
            · (intro w hSw; (try dsimp only at hSw); go_simp; (try with_reducible rfl))
            try simp only [Act.put, List.setIfInBounds_toArray, List.set_cons_zero, List.set_cons_succ]
            refine wpAnyX_take (i := 5) (oi := _) (v := ?_) rfl (by kernel_rfl) (by kernel_rfl) (by kernel_rfl) (by kernel_rfl) (fun _ _ _ h => h) (Or.inl ⟨by rfl, ?_⟩) hS0 ?_
            rotate_left 1
            · (intro w hSw; (try dsimp only at hSw); go_simp; (try with_reducible rfl))
            try simp only [Act.put, List.setIfInBounds_toArray, List.set_cons_zero, List.set_cons_succ]
            refine wpAnyX_take (i := 6) (oi := _) (v := ?_) rfl (by kernel_rfl) (by kernel_rfl) (by kernel_rfl) (by kernel_rfl) (fun _ _ _ h => h) (Or.inl ⟨by rfl, ?_⟩) hS0 ?_
            rotate_left 1
            · (intro w hSw; (try dsimp only at hSw); go_simp; (try with_reducible rfl))
            try simp only [Act.put, List.setIfInBounds_toArray, List.set_cons_zero, List.set_cons_succ]
            refine wpAnyX_take (i := 7) (oi := _) (v := ?_) rfl (by kernel_rfl) (by kernel_rfl) (by kernel_rfl) (by kernel_rfl) (fun _ _ _ h => h) (Or.inl ⟨by rfl, ?_⟩) hS0 ?_
            rotate_left 1
            · (intro w hSw; (try dsimp only at hSw); go_simp; (try with_reducible rfl))
            try simp only [Act.put, List.setIfInBounds_toArray, List.set_cons_zero, List.set_cons_succ]
            refine wpAnyX_take (i := 8) (oi := _) (v := ?_) rfl (by kernel_rfl) (by kernel_rfl) (by kernel_rfl) (by kernel_rfl) (fun _ _ _ h => h) (Or.inl ⟨by rfl, ?_⟩) hS0 ?_
            rotate_left 1
            · (intro w hSw; (try dsimp only at hSw); go_simp; (try with_reducible rfl))
            try simp only [Act.put, List.setIfInBounds_toArray, List.set_cons_zero, List.set_cons_succ]
            refine wpAnyX_take (i := 9) (oi := _) (v := ?_) rfl (by kernel_rfl) (by kernel_rfl) (by kernel_rfl) (by kernel_rfl) (fun _ _ _ h => h) (Or.inl ⟨by rfl, ?_⟩) hS0 ?_
            rotate_left 1
            · (intro w hSw; (try dsimp only at hSw); go_simp; (try with_reducible rfl))
            try simp only [Act.put, List.setIfInBounds_toArray, List.set_cons_zero, List.set_cons_succ]
            refine wpAnyX_take (i := 10) (oi := _) (v := ?_) rfl (by kernel_rfl) (by kernel_rfl) (by kernel_rfl) (by kernel_rfl) (fun _ _ _ h => h) (Or.inl ⟨by rfl, ?_⟩) hS0 ?_
            rotate_left 1
            · (intro w hSw; (try dsimp only at hSw); go_simp; (try with_reducible rfl))
            try simp only [Act.put, List.setIfInBounds_toArray, List.set_cons_zero, List.set_cons_succ]
            refine wpAnyX_take (i := 11) (oi := _) (v := ?_) rfl (by kernel_rfl) (by kernel_rfl) (by kernel_rfl) (by kernel_rfl) (fun _ _ _ h => h) (Or.inl ⟨by rfl, ?_⟩) hS0 ?_
            rotate_left 1
            · (intro w hSw; (try dsimp only at hSw); go_simp; (try with_reducible rfl))
            try simp only [Act.put, List.setIfInBounds_toArray, List.set_cons_zero, List.set_cons_succ]
            refine wpAnyX_take (i := 12) (oi := _) (v := ?_) rfl (by kernel_rfl) (by kernel_rfl) (by kernel_rfl) (by kernel_rfl) (fun _ _ _ h => h) (Or.inl ⟨by rfl, ?_⟩) hS0 ?_
            rotate_left 1
            · (intro w hSw; (try dsimp only at hSw); go_simp; (try with_reducible rfl))
            try simp only [Act.put, List.setIfInBounds_toArray, List.set_cons_zero, List.set_cons_succ]
            refine wpAnyX_take (i := 13) (oi := _) (v := ?_) rfl (by kernel_rfl) (by kernel_rfl) (by kernel_rfl) (by kernel_rfl) (fun _ _ _ h => h) (Or.inl ⟨by rfl, ?_⟩) hS0 ?_
            rotate_left 1
            · (intro w hSw; (try dsimp only at hSw); go_simp; (try with_reducible rfl))
            try simp only [Act.put, List.setIfInBounds_toArray, List.set_cons_zero, List.set_cons_succ]
            refine wpAnyX_take (i := 14) (oi := _) (v := ?_) rfl (by kernel_rfl) (by kernel_rfl) (by kernel_rfl) (by kernel_rfl) (fun _ _ _ h => h) (Or.inl ⟨by rfl, ?_⟩) hS0 ?_
            rotate_left 1
            · (intro w hSw; (try dsimp only at hSw); go_simp; (try with_reducible rfl))
            try simp only [Act.put, List.setIfInBounds_toArray, List.set_cons_zero, List.set_cons_succ]
            refine wpAnyX_take (i := 15) (oi := _) (v := ?_) rfl (by kernel_rfl) (by kernel_rfl) (by kernel_rfl) (by kernel_rfl) (fun _ _ _ h => h) (Or.inl ⟨by rfl, ?_⟩) hS0 ?_
            rotate_left 1
            · (intro w hSw; (try dsimp only at hSw); go_simp; (try with_reducible rfl))
            try simp only [Act.put, List.setIfInBounds_toArray, List.set_cons_zero, List.set_cons_succ]
            refine wpAnyX_one (i := 16) (o := _) rfl (by kernel_rfl) (fun K hK => ?_)
            go_simp
            refine hK.out _ _ (fun _ => ?_) (fun hS1 => ?_)
            · first | exact ⟨kal (hS0.1), kal (hS0.2.1), kal (hS0.2.2.1), kal (hS0.2.2.2.1), kal (hS0.2.2.2.2.1), kal (hS0.2.2.2.2.2.1), kal (hS0.2.2.2.2.2.2.1), kal (hS0.2.2.2.2.2.2.2.1), kal (hS0.2.2.2.2.2.2.2.2)⟩ | exact ⟨kald (hS0.1), kald (hS0.2.1), kald (hS0.2.2.1), kald (hS0.2.2.2.1), kald (hS0.2.2.2.2.1), kald (hS0.2.2.2.2.2.1), kald (hS0.2.2.2.2.2.2.1), kald (hS0.2.2.2.2.2.2.2.1), kald (hS0.2.2.2.2.2.2.2.2)⟩
            clear hK K
            have hS1 := hS1 (by decide)
            try simp only [Act.put, List.setIfInBounds_toArray, List.set_cons_zero, List.set_cons_succ]
            refine wpAnyX_one (i := 17) (o := _) rfl (by kernel_rfl) (fun K hK => ?_)
            go_simp
            refine hK.out _ _ (fun h => absurd rfl h) (fun _ => ?_)
            clear hK K
            try simp only [Act.put, List.setIfInBounds_toArray, List.set_cons_zero, List.set_cons_succ]
            refine wpAnyX_done (by kernel_rfl) ?_ _
            go_wp2_with (fail)
            go_meet
            refine ⟨_, rfl, ?_, ?_, ?_⟩
            · (first | exact Nat.le_refl _ | (simp; done))
            · show Bx _ _ _ _
              first | exact Bx.new rfl | exact Bx.set5 _ (x := z5) (Bx.new rfl)
            · show Below _ _ _
              first | (repeat' (first | (with_reducible exact Below.refl _ _) | (with_reducible assumption) | (with_reducible refine Below.alloc ?_ ?_ _) | (with_reducible refine Below.drew ?_) | (with_reducible refine below_drewN ?_ _) | (with_reducible refine Below.setCell ?_ ?_ _) | (with_reducible refine chain ?_ (by assumption) ?_) | omega | (simp; done) | (simp; omega))) | (refine set5_below ?_ ?_ <;> (repeat' (first | (with_reducible exact Below.refl _ _) | (with_reducible assumption) | (with_reducible refine Below.alloc ?_ ?_ _) | (with_reducible refine Below.drew ?_) | (with_reducible refine below_drewN ?_ _) | (with_reducible refine Below.setCell ?_ ?_ _) | (with_reducible refine chain ?_ (by assumption) ?_) | omega | (simp; done) | (simp; omega))))
          case rest =>
            obtain ⟨w8, rfl⟩ : ∃ w8, w8 = wc := ⟨_, rfl⟩
            obtain ⟨bx, rfl, hbx, XX, HB8⟩ := hcut
            have hB8 := HB8.out
            have hz8 := hB8.size
            have Ya := hid (Xa.out.mono hB8)
            have Yb := hid (Xb.out.mono hB8)
            have Yz := hid (Xz.out.mono hB8)
            have Yo := hid (Xo.out.mono hB8)
            have Yf := hid (Xf.out.mono hB8)
            have HOw8 := hid (HOw.out.mono hB8)
            obtain ⟨r0, r1, r2, r3, r4⟩ := HCy.out.at_ (hB8.block h0 (by omega))
            clear hB8 HOw p0 p1 p2 p3 p4 HCy HX5 Xa la ca0 ca1 ca2 Xb lb cb0 cb1 cb2 Xz lz cz0 cz1 cz2 fz Xo lo co0 co1 co2 fo Xf lf cf0 ff
            have cb0 := Yb.out.c 0 rfl
            have cb1 := Yb.out.c 1 rfl
            have cb2 := Yb.out.c 2 rfl
            go_wp2_with (fail)
            go_cut [11] (fun s11 wx => ∃ b : Nat, s11 = .pointer (some ⟨b, 0, none⟩) ∧ w8.heap.size ≤ b ∧ Hid (Bx wx b 37 #[.int .i64 y.a, .int .i64 y.b, .int .i64 y.c, .int .i64 y.d, .int .i64 y.e]) ∧ Hid (Below w8.heap.size w8 wx))
            case first =>
              have ycb0 : w8.drew.cell? ⟨w.heap.size + 1, 0, none⟩ = some (.int .i64 (rb : Int)) := cb0
              have ycb1 : w8.drew.cell? ⟨w.heap.size + 1, 1, none⟩ = some (.int .i64 (cb : Int)) := cb1
              have ycb2 : w8.drew.cell? ⟨w.heap.size + 1, 2, none⟩ = some (.slice (some ⟨h0, 0, none⟩) m cp') := cb2
              have yr0 : w8.drew.cell? ⟨h0, t * 5, none⟩ = some (.int .i64 y.a) := r0
              have yr1 : w8.drew.cell? ⟨h0, t * 5 + 1, none⟩ = some (.int .i64 y.b) := r1
              have yr2 : w8.drew.cell? ⟨h0, t * 5 + 2, none⟩ = some (.int .i64 y.c) := r2
              have yr3 : w8.drew.cell? ⟨h0, t * 5 + 3, none⟩ = some (.int .i64 y.d) := r3
              have yr4 : w8.drew.cell? ⟨h0, t * 5 + 4, none⟩ = some (.int .i64 y.e) := r4
              refine wp_region_x (fun w' => w'.cell? ⟨w.heap.size + 1, 0, none⟩ = some (.int .i64 (rb : Int)) ∧ w'.cell? ⟨w.heap.size + 1, 1, none⟩ = some (.int .i64 (cb : Int)) ∧ w'.cell? ⟨w.heap.size + 1, 2, none⟩ = some (.slice (some ⟨h0, 0, none⟩) m cp') ∧ w'.cell? ⟨h0, t * 5, none⟩ = some (.int .i64 y.a) ∧ w'.cell? ⟨h0, t * 5 + 1, none⟩ = some (.int .i64 y.b) ∧ w'.cell? ⟨h0, t * 5 + 2, none⟩ = some (.int .i64 y.c) ∧ w'.cell? ⟨h0, t * 5 + 3, none⟩ = some (.int .i64 y.d) ∧ w'.cell? ⟨h0, t * 5 + 4, none⟩ = some (.int .i64 y.e)) 17 (by kernel_rfl) ⟨ycb0, ycb1, ycb2, yr0, yr1, yr2, yr3, yr4⟩ (fun hS0 => ?_)
              refine wpAnyX_take (i := 0) (oi := _) (v := ?_) rfl (by kernel_rfl) (by kernel_rfl) (by kernel_rfl) (by kernel_rfl) (fun _ _ _ h => h) (Or.inl ⟨by rfl, ?_⟩) hS0 ?_
              rotate_left 1
              · (intro w hSw; (try dsimp only at hSw); go_simp; (try with_reducible rfl))
              try simp only [Act.put, List.setIfInBounds_toArray, List.set_cons_zero, List.set_cons_succ]
              refine wpAnyX_take (i := 1) (oi := _) (v := ?_) rfl (by kernel_rfl) (by kernel_rfl) (by kernel_rfl) (by kernel_rfl) (fun _ _ _ h => h) (Or.inl ⟨by rfl, ?_⟩) hS0 ?_
              rotate_left 1
              · (intro w hSw; (try dsimp only at hSw); go_simp; (try with_reducible rfl))
              try simp only [Act.put, List.setIfInBounds_toArray, List.set_cons_zero, List.set_cons_succ]
              refine wpAnyX_take (i := 2) (oi := _) (v := ?_) rfl (by kernel_rfl) (by kernel_rfl) (by kernel_rfl) (by kernel_rfl) (fun _ _ _ h => h) (Or.inl ⟨by rfl, ?_⟩) hS0 ?_
              rotate_left 1
              · (intro w hSw; (try dsimp only at hSw); go_simp; (try with_reducible rfl))
              try simp only [Act.put, List.setIfInBounds_toArray, List.set_cons_zero, List.set_cons_succ]
              refine wpAnyX_take (i := 3) (oi := _) (v := ?_) rfl (by kernel_rfl) (by kernel_rfl) (by kernel_rfl) (by kernel_rfl) (fun _ _ _ h => h) (Or.inl ⟨by rfl, ?_⟩) hS0 ?_
              rotate_left 1
              · (intro w hSw; (try dsimp only at hSw); go_simp; (try with_reducible rfl))
              try simp only [Act.put, List.setIfInBounds_toArray, List.set_cons_zero, List.set_cons_succ]
              refine wpAnyX_take (i := 4) (oi := _) (v := ?_) rfl (by kernel_rfl) (by kernel_rfl) (by kernel_rfl) (by kernel_rfl) (fun _ _ _ h => h) (Or.inl ⟨by rfl, ?_⟩) hS0 ?_
              rotate_left 1
              · (intro w hSw; (try dsimp only at hSw); go_simp; (try with_reducible rfl))
              try simp only [Act.put, List.setIfInBounds_toArray, List.set_cons_zero, List.set_cons_succ]
              refine wpAnyX_take (i := 5) (oi := _) (v := ?_) rfl (by kernel_rfl) (by kernel_rfl) (by kernel_rfl) (by kernel_rfl) (fun _ _ _ h => h) (Or.inl ⟨by rfl, ?_⟩) hS0 ?_
              rotate_left 1
              · (intro w hSw; (try dsimp only at hSw); go_simp; (try with_reducible rfl))
              try simp only [Act.put, List.setIfInBounds_toArray, List.set_cons_zero, List.set_cons_succ]
              refine wpAnyX_take (i := 6) (oi := _) (v := ?_) rfl (by kernel_rfl) (by kernel_rfl) (by kernel_rfl) (by kernel_rfl) (fun _ _ _ h => h) (Or.inl ⟨by rfl, ?_⟩) hS0 ?_
              rotate_left 1
              · (intro w hSw; (try dsimp only at hSw); go_simp; (try with_reducible rfl))
              try simp only [Act.put, List.setIfInBounds_toArray, List.set_cons_zero, List.set_cons_succ]
              refine wpAnyX_take (i := 7) (oi := _) (v := ?_) rfl (by kernel_rfl) (by kernel_rfl) (by kernel_rfl) (by kernel_rfl) (fun _ _ _ h => h) (Or.inl ⟨by rfl, ?_⟩) hS0 ?_
              rotate_left 1
              · (intro w hSw; (try dsimp only at hSw); go_simp; (try with_reducible rfl))
              try simp only [Act.put, List.setIfInBounds_toArray, List.set_cons_zero, List.set_cons_succ]
              refine wpAnyX_take (i := 8) (oi := _) (v := ?_) rfl (by kernel_rfl) (by kernel_rfl) (by kernel_rfl) (by kernel_rfl) (fun _ _ _ h => h) (Or.inl ⟨by rfl, ?_⟩) hS0 ?_
              rotate_left 1
              · (intro w hSw; (try dsimp only at hSw); go_simp; (try with_reducible rfl))
              try simp only [Act.put, List.setIfInBounds_toArray, List.set_cons_zero, List.set_cons_succ]
              refine wpAnyX_take (i := 9) (oi := _) (v := ?_) rfl (by kernel_rfl) (by kernel_rfl) (by kernel_rfl) (by kernel_rfl) (fun _ _ _ h => h) (Or.inl ⟨by rfl, ?_⟩) hS0 ?_
              rotate_left 1
              · (intro w hSw; (try dsimp only at hSw); go_simp; (try with_reducible rfl))
              try simp only [Act.put, List.setIfInBounds_toArray, List.set_cons_zero, List.set_cons_succ]
              refine wpAnyX_take (i := 10) (oi := _) (v := ?_) rfl (by kernel_rfl) (by kernel_rfl) (by kernel_rfl) (by kernel_rfl) (fun _ _ _ h => h) (Or.inl ⟨by rfl, ?_⟩) hS0 ?_
              rotate_left 1
              · (intro w hSw; (try dsimp only at hSw); go_simp; (try with_reducible rfl))
              try simp only [Act.put, List.setIfInBounds_toArray, List.set_cons_zero, List.set_cons_succ]
              refine wpAnyX_take (i := 11) (oi := _) (v := ?_) rfl (by kernel_rfl) (by kernel_rfl) (by kernel_rfl) (by kernel_rfl) (fun _ _ _ h => h) (Or.inl ⟨by rfl, ?_⟩) hS0 ?_
              rotate_left 1
              · (intro w hSw; (try dsimp only at hSw); go_simp; (try with_reducible rfl))
              try simp only [Act.put, List.setIfInBounds_toArray, List.set_cons_zero, List.set_cons_succ]
              refine wpAnyX_take (i := 12) (oi := _) (v := ?_) rfl (by kernel_rfl) (by kernel_rfl) (by kernel_rfl) (by kernel_rfl) (fun _ _ _ h => h) (Or.inl ⟨by rfl, ?_⟩) hS0 ?_
              rotate_left 1
              · (intro w hSw; (try dsimp only at hSw); go_simp; (try with_reducible rfl))
              try simp only [Act.put, List.setIfInBounds_toArray, List.set_cons_zero, List.set_cons_succ]
              refine wpAnyX_take (i := 13) (oi := _) (v := ?_) rfl (by kernel_rfl) (by kernel_rfl) (by kernel_rfl) (by kernel_rfl) (fun _ _ _ h => h) (Or.inl ⟨by rfl, ?_⟩) hS0 ?_
              rotate_left 1
              · (intro w hSw; (try dsimp only at hSw); go_simp; (try with_reducible rfl))
              try simp only [Act.put, List.setIfInBounds_toArray, List.set_cons_zero, List.set_cons_succ]
              refine wpAnyX_take (i := 14) (oi := _) (v := ?_) rfl (by kernel_rfl) (by kernel_rfl) (by kernel_rfl) (by kernel_rfl) (fun _ _ _ h => h) (Or.inl ⟨by rfl, ?_⟩) hS0 ?_
              rotate_left 1
              · (intro w hSw; (try dsimp only at hSw); go_simp; (try with_reducible rfl))
              try simp only [Act.put, List.setIfInBounds_toArray, List.set_cons_zero, List.set_cons_succ]
              refine wpAnyX_take (i := 15) (oi := _) (v := ?_) rfl (by kernel_rfl) (by kernel_rfl) (by kernel_rfl) (by kernel_rfl) (fun _ _ _ h => h) (Or.inl ⟨by rfl, ?_⟩) hS0 ?_
              rotate_left 1
              · (intro w hSw; (try dsimp only at hSw); go_simp; (try with_reducible rfl))
              try simp only [Act.put, List.setIfInBounds_toArray, List.set_cons_zero, List.set_cons_succ]
              refine wpAnyX_one (i := 16) (o := _) rfl (by kernel_rfl) (fun K hK => ?_)
              go_simp
              refine hK.out _ _ (fun _ => ?_) (fun hS1 => ?_)
              · first | exact ⟨kal (hS0.1), kal (hS0.2.1), kal (hS0.2.2.1), kal (hS0.2.2.2.1), kal (hS0.2.2.2.2.1), kal (hS0.2.2.2.2.2.1), kal (hS0.2.2.2.2.2.2.1), kal (hS0.2.2.2.2.2.2.2)⟩ | exact ⟨kald (hS0.1), kald (hS0.2.1), kald (hS0.2.2.1), kald (hS0.2.2.2.1), kald (hS0.2.2.2.2.1), kald (hS0.2.2.2.2.2.1), kald (hS0.2.2.2.2.2.2.1), kald (hS0.2.2.2.2.2.2.2)⟩
              clear hK K
              have hS1 := hS1 (by decide)
              try simp only [Act.put, List.setIfInBounds_toArray, List.set_cons_zero, List.set_cons_succ]
              refine wpAnyX_one (i := 17) (o := _) rfl (by kernel_rfl) (fun K hK => ?_)
              go_simp
              refine hK.out _ _ (fun h => absurd rfl h) (fun _ => ?_)
              clear hK K
              try simp only [Act.put, List.setIfInBounds_toArray, List.set_cons_zero, List.set_cons_succ]
              refine wpAnyX_done (by kernel_rfl) ?_ _
              go_wp2_with (fail)
              go_meet
              refine ⟨_, rfl, ?_, ?_, ?_⟩
              · (first | exact Nat.le_refl _ | (simp; done))
              · show Bx _ _ _ _
                first | exact Bx.new rfl | exact Bx.set5 _ (x := z5) (Bx.new rfl)
              · show Below _ _ _
                first | (repeat' (first | (with_reducible exact Below.refl _ _) | (with_reducible assumption) | (with_reducible refine Below.alloc ?_ ?_ _) | (with_reducible refine Below.drew ?_) | (with_reducible refine below_drewN ?_ _) | (with_reducible refine Below.setCell ?_ ?_ _) | (with_reducible refine chain ?_ (by assumption) ?_) | omega | (simp; done) | (simp; omega))) | (refine set5_below ?_ ?_ <;> (repeat' (first | (with_reducible exact Below.refl _ _) | (with_reducible assumption) | (with_reducible refine Below.alloc ?_ ?_ _) | (with_reducible refine Below.drew ?_) | (with_reducible refine below_drewN ?_ _) | (with_reducible refine Below.setCell ?_ ?_ _) | (with_reducible refine chain ?_ (by assumption) ?_) | omega | (simp; done) | (simp; omega))))
            case rest =>
              obtain ⟨w9, rfl⟩ : ∃ w9, w9 = wc := ⟨_, rfl⟩
              obtain ⟨by_, rfl, hby, XY, HB9⟩ := hcut
              have hB9 := HB9.out
              have hz9 := hB9.size
              have Xa := hid (Ya.out.mono hB9)
              have Xb := hid (Yb.out.mono hB9)
              have Xz := hid (Yz.out.mono hB9)
              have Xo := hid (Yo.out.mono hB9)
              have Xf := hid (Yf.out.mono hB9)
              have XX9 := hid (XX.out.mono hB9)
              have HOw := hid (HOw8.out.mono hB9)
              have hBW : Below w.heap.size (w.setCell ⟨gc, 0, none⟩ (.bool z)) w9 := chain (chain HBo.out HB8.out (by omega)) hB9 (by omega)
              have HBW := hid hBW
              clear hBW hB9 HOw8 XX r0 r1 r2 r3 r4 HBo HB8 HB9 cb0 cb1 cb2 Ya Yb Yz Yo Yf
              have ca0 := Xa.out.c 0 rfl
              have ca1 := Xa.out.c 1 rfl
              have ca2 := Xa.out.c 2 rfl
              have la := Xa.out.lt
              have cb0 := Xb.out.c 0 rfl
              have cb1 := Xb.out.c 1 rfl
              have cb2 := Xb.out.c 2 rfl
              have lb := Xb.out.lt
              have cz0 := Xz.out.c 0 rfl
              have cz1 := Xz.out.c 1 rfl
              have cz2 := Xz.out.c 2 rfl
              have lz := Xz.out.lt
              have fz := Xz.out.f
              have co0 := Xo.out.c 0 rfl
              have co1 := Xo.out.c 1 rfl
              have co2 := Xo.out.c 2 rfl
              have lo := Xo.out.lt
              have fo := Xo.out.f
              have cf0 := Xf.out.c 0 rfl
              have lf := Xf.out.lt
              have ff := Xf.out.f
              have x0 := XX9.out.c 0 rfl
              have x1 := XX9.out.c 1 rfl
              have x2 := XX9.out.c 2 rfl
              have x3 := XX9.out.c 3 rfl
              have x4 := XX9.out.c 4 rfl
              have y0 := XY.out.c 0 rfl
              have y1 := XY.out.c 1 rfl
              have y2 := XY.out.c 2 rfl
              have y3 := XY.out.c 3 rfl
              have y4 := XY.out.c 4 rfl
              have hvl := HVL.out
              have nea : some (w.heap.size) ≠ v.ownBlock := fun e => by have := (hvl _ e.symm); omega
              have neb : some (w.heap.size + 1) ≠ v.ownBlock := fun e => by have := (hvl _ e.symm); omega
              have nez : some (w.heap.size + 1 + 1) ≠ v.ownBlock := fun e => by have := (hvl _ e.symm); omega
              have neo : some (w.heap.size + 1 + 1 + 1) ≠ v.ownBlock := fun e => by have := (hvl _ e.symm); omega
              have nef : some (gc) ≠ v.ownBlock := fun e => by have := (hvl _ e.symm); omega
              have nex : some (bx) ≠ v.ownBlock := fun e => by have := (hvl _ e.symm); omega
              have ney : some (by_) ≠ v.ownBlock := fun e => by have := (hvl _ e.symm); omega
              clear hvl
              go_wp2_with (fail)
              have iqj : i * Q + j < N := by rw [EN.out]; exact idx_lt hlti hltj
              have yco2 : w9.drew.cell? ⟨w.heap.size + 1 + 1 + 1, 2, none⟩ = some (v) := co2
              have yx0 : w9.drew.cell? ⟨bx, 0, none⟩ = some (.int .i64 x.a) := x0
              have yx1 : w9.drew.cell? ⟨bx, 1, none⟩ = some (.int .i64 x.b) := x1
              have yx2 : w9.drew.cell? ⟨bx, 2, none⟩ = some (.int .i64 x.c) := x2
              have yx3 : w9.drew.cell? ⟨bx, 3, none⟩ = some (.int .i64 x.d) := x3
              have yx4 : w9.drew.cell? ⟨bx, 4, none⟩ = some (.int .i64 x.e) := x4
              have yy0 : w9.drew.cell? ⟨by_, 0, none⟩ = some (.int .i64 y.a) := y0
              have yy1 : w9.drew.cell? ⟨by_, 1, none⟩ = some (.int .i64 y.b) := y1
              have yy2 : w9.drew.cell? ⟨by_, 2, none⟩ = some (.int .i64 y.c) := y2
              have yy3 : w9.drew.cell? ⟨by_, 3, none⟩ = some (.int .i64 y.d) := y3
              have yy4 : w9.drew.cell? ⟨by_, 4, none⟩ = some (.int .i64 y.e) := y4
              refine wp_region_x (fun w' => w'.cell? ⟨w.heap.size + 1 + 1 + 1, 2, none⟩ = some (v) ∧ w'.cell? ⟨bx, 0, none⟩ = some (.int .i64 x.a) ∧ w'.cell? ⟨bx, 1, none⟩ = some (.int .i64 x.b) ∧ w'.cell? ⟨bx, 2, none⟩ = some (.int .i64 x.c) ∧ w'.cell? ⟨bx, 3, none⟩ = some (.int .i64 x.d) ∧ w'.cell? ⟨bx, 4, none⟩ = some (.int .i64 x.e) ∧ w'.cell? ⟨by_, 0, none⟩ = some (.int .i64 y.a) ∧ w'.cell? ⟨by_, 1, none⟩ = some (.int .i64 y.b) ∧ w'.cell? ⟨by_, 2, none⟩ = some (.int .i64 y.c) ∧ w'.cell? ⟨by_, 3, none⟩ = some (.int .i64 y.d) ∧ w'.cell? ⟨by_, 4, none⟩ = some (.int .i64 y.e)) 9 (by kernel_rfl) ⟨yco2, yx0, yx1, yx2, yx3, yx4, yy0, yy1, yy2, yy3, yy4⟩ (fun hS0 => ?_)
              refine wpAnyX_take (i := 0) (oi := _) (v := ?_) rfl (by kernel_rfl) (by kernel_rfl) (by kernel_rfl) (by kernel_rfl) (fun _ _ _ h => h) (Or.inl ⟨by rfl, ?_⟩) hS0 ?_
              rotate_left 1
              · (intro w hSw; (try dsimp only at hSw); go_simp; (try with_reducible rfl))
              try simp only [Act.put, List.setIfInBounds_toArray, List.set_cons_zero, List.set_cons_succ]
              refine wpAnyX_take (i := 1) (oi := _) (v := ?_) rfl (by kernel_rfl) (by kernel_rfl) (by kernel_rfl) (by kernel_rfl) (fun _ _ _ h => h) (Or.inl ⟨by rfl, ?_⟩) hS0 ?_
              rotate_left 1
              · (intro w hSw; (try dsimp only at hSw); go_simp; (try with_reducible rfl))
              try simp only [Act.put, List.setIfInBounds_toArray, List.set_cons_zero, List.set_cons_succ]
              refine wpAnyX_take (i := 2) (oi := _) (v := ?_) rfl (by kernel_rfl) (by kernel_rfl) (by kernel_rfl) (by kernel_rfl) (fun _ _ _ h => h) (Or.inl ⟨by rfl, ?_⟩) hS0 ?_
              rotate_left 1
              · (intro w hSw; (try dsimp only at hSw); go_simp; (try with_reducible rfl))
              try simp only [Act.put, List.setIfInBounds_toArray, List.set_cons_zero, List.set_cons_succ]
              refine wpAnyX_take (i := 3) (oi := _) (v := ?_) rfl (by kernel_rfl) (by kernel_rfl) (by kernel_rfl) (by kernel_rfl) (fun _ _ _ h => h) (Or.inl ⟨by rfl, ?_⟩) hS0 ?_
              rotate_left 1
              · (intro w hSw; (try dsimp only at hSw); go_simp; (try with_reducible rfl))
              try simp only [Act.put, List.setIfInBounds_toArray, List.set_cons_zero, List.set_cons_succ]
              refine wpAnyX_take (i := 4) (oi := _) (v := ?_) rfl (by kernel_rfl) (by kernel_rfl) (by kernel_rfl) (by kernel_rfl) (fun _ _ _ h => h) (Or.inl ⟨by rfl, ?_⟩) hS0 ?_
              rotate_left 1
              · (intro w hSw; (try dsimp only at hSw); go_simp; (try with_reducible rfl))
              try simp only [Act.put, List.setIfInBounds_toArray, List.set_cons_zero, List.set_cons_succ]
              refine wpAnyX_one (i := 5) (o := _) rfl (by kernel_rfl) (fun K hK => ?_)
              go_simp
              refine (cmul (x := x) (y := y) (z := z) HKx.out HKy.out (by exact cf0) (by exact ff 0)).mono ?_
              rintro ee wa ⟨rfl, hba⟩
              have hbb := bad_drew hba
              have hza := bad_size hbb
              refine hK.out _ _ (fun _ => ?_) (fun hS1 => ?_)
              · exact ⟨kbad hba (by omega) (hS0.1), kbad hba (by omega) (hS0.2.1), kbad hba (by omega) (hS0.2.2.1), kbad hba (by omega) (hS0.2.2.2.1), kbad hba (by omega) (hS0.2.2.2.2.1), kbad hba (by omega) (hS0.2.2.2.2.2.1), kbad hba (by omega) (hS0.2.2.2.2.2.2.1), kbad hba (by omega) (hS0.2.2.2.2.2.2.2.1), kbad hba (by omega) (hS0.2.2.2.2.2.2.2.2.1), kbad hba (by omega) (hS0.2.2.2.2.2.2.2.2.2.1), kbad hba (by omega) (hS0.2.2.2.2.2.2.2.2.2.2)⟩
              clear hK K
              have hS1 := hS1 (by decide)
              try simp only [Act.put, List.setIfInBounds_toArray, List.set_cons_zero, List.set_cons_succ]
              refine wpAnyX_one (i := 6) (o := _) rfl (by kernel_rfl) (fun K hK => ?_)
              go_simp
              refine hK.out _ _ (fun _ => ?_) (fun hS2 => ?_)
              · first | exact ⟨kal (hS1.1), kal (hS1.2.1), kal (hS1.2.2.1), kal (hS1.2.2.2.1), kal (hS1.2.2.2.2.1), kal (hS1.2.2.2.2.2.1), kal (hS1.2.2.2.2.2.2.1), kal (hS1.2.2.2.2.2.2.2.1), kal (hS1.2.2.2.2.2.2.2.2.1), kal (hS1.2.2.2.2.2.2.2.2.2.1), kal (hS1.2.2.2.2.2.2.2.2.2.2)⟩ | exact ⟨kald (hS1.1), kald (hS1.2.1), kald (hS1.2.2.1), kald (hS1.2.2.2.1), kald (hS1.2.2.2.2.1), kald (hS1.2.2.2.2.2.1), kald (hS1.2.2.2.2.2.2.1), kald (hS1.2.2.2.2.2.2.2.1), kald (hS1.2.2.2.2.2.2.2.2.1), kald (hS1.2.2.2.2.2.2.2.2.2.1), kald (hS1.2.2.2.2.2.2.2.2.2.2)⟩
              clear hK K
              have hS2 := hS2 (by decide)
              try simp only [Act.put, List.setIfInBounds_toArray, List.set_cons_zero, List.set_cons_succ]
              refine wpAnyX_one (i := 7) (o := _) rfl (by kernel_rfl) (fun K hK => ?_)
              refine step_append_lies _ (by rfl) _ _ _ (by rfl) (w.heap.size + 1 + 1 + 1 + 1) 37 i0 _ 5 40 Try.underlying24 hi0 hu0 hu1 hu2 rfl (by omega) v (i * Q + j) (csL zs) (by rfl) (World.ownsRow.alloc (by have := HOw.out.badly hbb (by omega); unfold Own5 at this; rw [HL.out] at this; exact this) _) ⟨wa.heap.size, 0, none⟩ 1 1 (mulS z x y).1.cs (by rfl) (by rfl) (World.news_of_block (cs := (mulS z x y).1.cs.toArray) (t := 37) (fr := (0, 0)) (heap_alloc_new _ _)) (by simp [D5.cs, Value.oneCell']) (by omega) (append_ok (by omega)).1 (append_ok (by omega)).2 (by simp; omega) (wa.heap.size + 1) (by simp) ?_
              intro gg cap wb hownb hgrowb hatb hltb
              refine hK.out _ _ (fun _ => ?_) (fun hS3 => ?_)
              · exact ⟨hgrowb.cell (hS2.1) neo, hgrowb.cell (hS2.2.1) nex, hgrowb.cell (hS2.2.2.1) nex, hgrowb.cell (hS2.2.2.2.1) nex, hgrowb.cell (hS2.2.2.2.2.1) nex, hgrowb.cell (hS2.2.2.2.2.2.1) nex, hgrowb.cell (hS2.2.2.2.2.2.2.1) ney, hgrowb.cell (hS2.2.2.2.2.2.2.2.1) ney, hgrowb.cell (hS2.2.2.2.2.2.2.2.2.1) ney, hgrowb.cell (hS2.2.2.2.2.2.2.2.2.2.1) ney, hgrowb.cell (hS2.2.2.2.2.2.2.2.2.2.2) ney⟩
              clear hK K
              have hS3 := hS3 (by decide)
              try simp only [Act.put, List.setIfInBounds_toArray, List.set_cons_zero, List.set_cons_succ]
              refine wpAnyX_take (i := 8) (oi := _) (v := ?_) rfl (by kernel_rfl) (by kernel_rfl) (by kernel_rfl) (by kernel_rfl) (fun _ _ _ h => h) (Or.inl ⟨by rfl, ?_⟩) hS3 ?_
              rotate_left 1
              · (intro w hSw; (try dsimp only at hSw); go_simp; (try with_reducible rfl))
              try simp only [Act.put, List.setIfInBounds_toArray, List.set_cons_zero, List.set_cons_succ]
              refine wpAnyX_one (i := 9) (o := _) rfl (by kernel_rfl) (fun K hK => ?_)
              have Yo := (Bx.alloc (Xo.out.badly hbb (by omega)) _).grown hgrowb neo
              have yo2 := Yo.c 2 rfl
              have yof := Yo.f 2
              go_simp
              refine hK.out _ _ (fun h => absurd rfl h) (fun _ => ?_)
              clear hK K
              try simp only [Act.put, List.setIfInBounds_toArray, List.set_cons_zero, List.set_cons_succ]
              refine wpAnyX_done (by kernel_rfl) ?_ _
              go_wp2_with (fail)
              go_roundg m2
              case measure => omega
              case rel =>
                have hzb := hgrowb.size
                simp only [World.size_alloc] at hzb
                have Ya := (Bx.alloc (Xa.out.badly hbb (by omega)) _).grown hgrowb nea
                have Yb := (Bx.alloc (Xb.out.badly hbb (by omega)) _).grown hgrowb neb
                have Yz := (Bx.alloc (Xz.out.badly hbb (by omega)) _).grown hgrowb nez
                have Yf := (Bx.alloc (Xf.out.bad hbb) _).grown hgrowb nef
                refine ⟨j + 1, .slice (some ⟨gg, 0, none⟩) (i * Q + j + 1) cap, (mulS z x y).2, zs ++ [(mulS z x y).1], by omega, by go_num, Ya.far (by omega), Yb.far (by omega), Yz.far (by omega), Yo.set rfl, Yf.far (by omega), ?_, ?_, by (try simp only [World.size_setCell]); omega, ?_⟩
                · show Own5 _ _ _ _ _
                  exact (Own5.snoc HL.out hownb).far (by show w.heap.size + 1 + 1 + 1 < _; omega) _
                · exact HS.out.next (fun h => by rw [h, HE.out.1, HE.out.2]) (fun h => by rw [h]; exact mulS_t)
                · show Below _ _ _
                  refine Below.setCell ?_ (by show w.heap.size ≤ w.heap.size + 1 + 1 + 1; omega) _
                  refine Below.grown ((bad_step HBW.out hgc hbb (by omega)).alloc (by omega) _) hgrowb (by simp only [World.size_alloc]; omega) (fun q e => by have := (HVL.out _ e).1; omega)

end Go.Proofs.Ytncgccpkbneagaa
