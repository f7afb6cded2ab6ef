/- Contracts of the model of AddMatrix. -/
import Derived.Test.YtdgcanlbdneelaaBad3
namespace Go.Proofs.Ytdgcanlbdneelaa
open Go.RowKit RM
set_option linter.unusedVariables false
set_option linter.unusedSimpArgs false
attribute [local irreducible] World.setCell

set_option maxRecDepth 100000 in
set_option maxHeartbeats 4000000 in
theorem mad_s_v1 {r c r' c' : Int} {A B : Option Addr} {n m cp cp' : Nat} {xs ys : List D5} {w : World} (hA : Rd w A xs) (hB : Rd w B ys) (hn : xs.length = n) (hm : ys.length = m) (hok : okM r c n xs = false) :
    Calls Try.prog 35 #[mv r c A n cp, mv r' c' B m cp'] w fun ee w' => ee = .returned (mt 0 0 none 0 0 false) ∧ Below w.heap.size w w' := by
  have HA := hid hA
  have HB := hid hB
  have HN := hid hn
  have HM := hid hm
  have HO := hid hok
  clear hA hB hn hm hok
  go_enter Try.func35, Try.ntmps35
  go_wp2_with (fail)
  refine (vm_s_f (xs := xs) HO.out ?_ HN.out).mono ?_
  · exact HA.out.mono (by (repeat' (first | (with_reducible exact Below.refl _ _) | (with_reducible assumption) | (with_reducible refine Below.alloc ?_ ?_ _) | (with_reducible refine Below.drew ?_) | (with_reducible refine below_drewN ?_ _) | (with_reducible refine Below.setCell ?_ ?_ _) | (with_reducible refine chain ?_ (by assumption) ?_) | omega | (simp; done) | (simp; omega))))
  rintro ee w1 ⟨rfl, hb1⟩
  have hw1 : Below w.heap.size w w1 := by (repeat' (first | (with_reducible exact Below.refl _ _) | (with_reducible assumption) | (with_reducible refine Below.alloc ?_ ?_ _) | (with_reducible refine Below.drew ?_) | (with_reducible refine below_drewN ?_ _) | (with_reducible refine Below.setCell ?_ ?_ _) | (with_reducible refine chain ?_ (by assumption) ?_) | omega | (simp; done) | (simp; omega)))
  obtain ⟨hc1, hf1, _⟩ := bcell hb1; have hz1 := hb1.size; (try simp at hz1); (try have hx10 : w.heap.size < w1.heap.size := (by omega)); (try have hx11 : w.heap.size + 1 < w1.heap.size := (by omega)); (try have hx12 : w.heap.size + 1 + 1 < w1.heap.size := (by omega)); (try have hx13 : w.heap.size + 1 + 1 + 1 < w1.heap.size := (by omega))
  go_wp2_with (fail)
  refine bodyPost_ret (v := mt 0 0 none 0 0 false) (by first | (simp [results, Try.results35, go_sem, *]; done) | (simp (disch := (first | omega | (simp; done) | (simp; omega))) [results, Try.results35, go_sem, *]; done) | (simp only [results, Try.results35]; go_simp; done)) rfl ⟨rfl, ?_⟩
  (repeat' (first | (with_reducible exact Below.refl _ _) | (with_reducible assumption) | (with_reducible refine Below.alloc ?_ ?_ _) | (with_reducible refine Below.drew ?_) | (with_reducible refine below_drewN ?_ _) | (with_reducible refine Below.setCell ?_ ?_ _) | (with_reducible refine chain ?_ (by assumption) ?_) | omega | (simp; done) | (simp; omega)))

set_option maxRecDepth 100000 in
set_option maxHeartbeats 4000000 in
theorem mad_s_v2 {r c r' c' : Int} {A B : Option Addr} {n m cp cp' : Nat} {xs ys : List D5} {w : World} (hA : Rd w A xs) (hB : Rd w B ys) (hn : xs.length = n) (hm : ys.length = m) (hok : okM r c n xs = true) (hok2 : okM r' c' m ys = false) :
    Calls Try.prog 35 #[mv r c A n cp, mv r' c' B m cp'] w fun ee w' => ee = .returned (mt 0 0 none 0 0 false) ∧ Below w.heap.size w w' := by
  have HA := hid hA
  have HB := hid hB
  have HN := hid hn
  have HM := hid hm
  have HO := hid hok
  have HP := hid hok2
  clear hA hB hn hm hok hok2
  go_enter Try.func35, Try.ntmps35
  go_wp2_with (fail)
  refine (vm_s_t (xs := xs) HO.out ?_ HN.out).mono ?_
  · exact HA.out.mono (by (repeat' (first | (with_reducible exact Below.refl _ _) | (with_reducible assumption) | (with_reducible refine Below.alloc ?_ ?_ _) | (with_reducible refine Below.drew ?_) | (with_reducible refine below_drewN ?_ _) | (with_reducible refine Below.setCell ?_ ?_ _) | (with_reducible refine chain ?_ (by assumption) ?_) | omega | (simp; done) | (simp; omega))))
  rintro ee w1 ⟨rfl, hb1⟩
  have hw1 : Below w.heap.size w w1 := by (repeat' (first | (with_reducible exact Below.refl _ _) | (with_reducible assumption) | (with_reducible refine Below.alloc ?_ ?_ _) | (with_reducible refine Below.drew ?_) | (with_reducible refine below_drewN ?_ _) | (with_reducible refine Below.setCell ?_ ?_ _) | (with_reducible refine chain ?_ (by assumption) ?_) | omega | (simp; done) | (simp; omega)))
  obtain ⟨hc1, hf1, _⟩ := bcell hb1; have hz1 := hb1.size; (try simp at hz1); (try have hx10 : w.heap.size < w1.heap.size := (by omega)); (try have hx11 : w.heap.size + 1 < w1.heap.size := (by omega)); (try have hx12 : w.heap.size + 1 + 1 < w1.heap.size := (by omega)); (try have hx13 : w.heap.size + 1 + 1 + 1 < w1.heap.size := (by omega))
  go_wp2_with (fail)
  refine (vm_s_f (xs := ys) HP.out ?_ HM.out).mono ?_
  · exact HB.out.mono (by (repeat' (first | (with_reducible exact Below.refl _ _) | (with_reducible assumption) | (with_reducible refine Below.alloc ?_ ?_ _) | (with_reducible refine Below.drew ?_) | (with_reducible refine below_drewN ?_ _) | (with_reducible refine Below.setCell ?_ ?_ _) | (with_reducible refine chain ?_ (by assumption) ?_) | omega | (simp; done) | (simp; omega))))
  rintro ee w2 ⟨rfl, hb2⟩
  have hw2 : Below w.heap.size w w2 := by (repeat' (first | (with_reducible exact Below.refl _ _) | (with_reducible assumption) | (with_reducible refine Below.alloc ?_ ?_ _) | (with_reducible refine Below.drew ?_) | (with_reducible refine below_drewN ?_ _) | (with_reducible refine Below.setCell ?_ ?_ _) | (with_reducible refine chain ?_ (by assumption) ?_) | omega | (simp; done) | (simp; omega)))
  obtain ⟨hc2, hf2, _⟩ := bcell hb2; have hz2 := hb2.size; (try simp at hz2); (try have hx20 : w.heap.size < w2.heap.size := (by omega)); (try have hx21 : w.heap.size + 1 < w2.heap.size := (by omega)); (try have hx22 : w.heap.size + 1 + 1 < w2.heap.size := (by omega)); (try have hx23 : w.heap.size + 1 + 1 + 1 < w2.heap.size := (by omega))
  go_wp2_with (fail)
  refine bodyPost_ret (v := mt 0 0 none 0 0 false) (by first | (simp [results, Try.results35, go_sem, *]; done) | (simp (disch := (first | omega | (simp; done) | (simp; omega))) [results, Try.results35, go_sem, *]; done) | (simp only [results, Try.results35]; go_simp; done)) rfl ⟨rfl, ?_⟩
  (repeat' (first | (with_reducible exact Below.refl _ _) | (with_reducible assumption) | (with_reducible refine Below.alloc ?_ ?_ _) | (with_reducible refine Below.drew ?_) | (with_reducible refine below_drewN ?_ _) | (with_reducible refine Below.setCell ?_ ?_ _) | (with_reducible refine chain ?_ (by assumption) ?_) | omega | (simp; done) | (simp; omega)))

set_option maxRecDepth 100000 in
set_option maxHeartbeats 4000000 in
theorem mad_s_r {r c r' c' : Int} {A B : Option Addr} {n m cp cp' : Nat} {xs ys : List D5} {w : World} (hA : Rd w A xs) (hB : Rd w B ys) (hn : xs.length = n) (hm : ys.length = m) (hok : okM r c n xs = true) (hok2 : okM r' c' m ys = true) (hr : r ≠ r') :
    Calls Try.prog 35 #[mv r c A n cp, mv r' c' B m cp'] w fun ee w' => ee = .returned (mt 0 0 none 0 0 false) ∧ Below w.heap.size w w' := by
  have h1 : (r != r') = true := by simpa using hr
  have HA := hid hA
  have HB := hid hB
  have HN := hid hn
  have HM := hid hm
  have HO := hid hok
  have HP := hid hok2
  clear hA hB hn hm hok hok2 hr
  go_enter Try.func35, Try.ntmps35
  go_wp2_with (fail)
  refine (vm_s_t (xs := xs) HO.out ?_ HN.out).mono ?_
  · exact HA.out.mono (by (repeat' (first | (with_reducible exact Below.refl _ _) | (with_reducible assumption) | (with_reducible refine Below.alloc ?_ ?_ _) | (with_reducible refine Below.drew ?_) | (with_reducible refine below_drewN ?_ _) | (with_reducible refine Below.setCell ?_ ?_ _) | (with_reducible refine chain ?_ (by assumption) ?_) | omega | (simp; done) | (simp; omega))))
  rintro ee w1 ⟨rfl, hb1⟩
  have hw1 : Below w.heap.size w w1 := by (repeat' (first | (with_reducible exact Below.refl _ _) | (with_reducible assumption) | (with_reducible refine Below.alloc ?_ ?_ _) | (with_reducible refine Below.drew ?_) | (with_reducible refine below_drewN ?_ _) | (with_reducible refine Below.setCell ?_ ?_ _) | (with_reducible refine chain ?_ (by assumption) ?_) | omega | (simp; done) | (simp; omega)))
  obtain ⟨hc1, hf1, _⟩ := bcell hb1; have hz1 := hb1.size; (try simp at hz1); (try have hx10 : w.heap.size < w1.heap.size := (by omega)); (try have hx11 : w.heap.size + 1 < w1.heap.size := (by omega)); (try have hx12 : w.heap.size + 1 + 1 < w1.heap.size := (by omega)); (try have hx13 : w.heap.size + 1 + 1 + 1 < w1.heap.size := (by omega))
  go_wp2_with (fail)
  refine (vm_s_t (xs := ys) HP.out ?_ HM.out).mono ?_
  · exact HB.out.mono (by (repeat' (first | (with_reducible exact Below.refl _ _) | (with_reducible assumption) | (with_reducible refine Below.alloc ?_ ?_ _) | (with_reducible refine Below.drew ?_) | (with_reducible refine below_drewN ?_ _) | (with_reducible refine Below.setCell ?_ ?_ _) | (with_reducible refine chain ?_ (by assumption) ?_) | omega | (simp; done) | (simp; omega))))
  rintro ee w2 ⟨rfl, hb2⟩
  have hw2 : Below w.heap.size w w2 := by (repeat' (first | (with_reducible exact Below.refl _ _) | (with_reducible assumption) | (with_reducible refine Below.alloc ?_ ?_ _) | (with_reducible refine Below.drew ?_) | (with_reducible refine below_drewN ?_ _) | (with_reducible refine Below.setCell ?_ ?_ _) | (with_reducible refine chain ?_ (by assumption) ?_) | omega | (simp; done) | (simp; omega)))
  obtain ⟨hc2, hf2, _⟩ := bcell hb2; have hz2 := hb2.size; (try simp at hz2); (try have hx20 : w.heap.size < w2.heap.size := (by omega)); (try have hx21 : w.heap.size + 1 < w2.heap.size := (by omega)); (try have hx22 : w.heap.size + 1 + 1 < w2.heap.size := (by omega)); (try have hx23 : w.heap.size + 1 + 1 + 1 < w2.heap.size := (by omega))
  go_wp2_with (fail)
  refine bodyPost_ret (v := mt 0 0 none 0 0 false) (by first | (simp [results, Try.results35, go_sem, *]; done) | (simp (disch := (first | omega | (simp; done) | (simp; omega))) [results, Try.results35, go_sem, *]; done) | (simp only [results, Try.results35]; go_simp; done)) rfl ⟨rfl, ?_⟩
  (repeat' (first | (with_reducible exact Below.refl _ _) | (with_reducible assumption) | (with_reducible refine Below.alloc ?_ ?_ _) | (with_reducible refine Below.drew ?_) | (with_reducible refine below_drewN ?_ _) | (with_reducible refine Below.setCell ?_ ?_ _) | (with_reducible refine chain ?_ (by assumption) ?_) | omega | (simp; done) | (simp; omega)))

set_option maxRecDepth 100000 in
set_option maxHeartbeats 4000000 in
theorem mad_s_c {r c r' c' : Int} {A B : Option Addr} {n m cp cp' : Nat} {xs ys : List D5} {w : World} (hA : Rd w A xs) (hB : Rd w B ys) (hn : xs.length = n) (hm : ys.length = m) (hok : okM r c n xs = true) (hok2 : okM r' c' m ys = true) (hr : r = r') (hc : c ≠ c') :
    Calls Try.prog 35 #[mv r c A n cp, mv r' c' B m cp'] w fun ee w' => ee = .returned (mt 0 0 none 0 0 false) ∧ Below w.heap.size w w' := by
  subst hr
  have h1 : (c != c') = true := by simpa using hc
  have HA := hid hA
  have HB := hid hB
  have HN := hid hn
  have HM := hid hm
  have HO := hid hok
  have HP := hid hok2
  clear hA hB hn hm hok hok2 hc
  go_enter Try.func35, Try.ntmps35
  go_wp2_with (fail)
  refine (vm_s_t (xs := xs) HO.out ?_ HN.out).mono ?_
  · exact HA.out.mono (by (repeat' (first | (with_reducible exact Below.refl _ _) | (with_reducible assumption) | (with_reducible refine Below.alloc ?_ ?_ _) | (with_reducible refine Below.drew ?_) | (with_reducible refine below_drewN ?_ _) | (with_reducible refine Below.setCell ?_ ?_ _) | (with_reducible refine chain ?_ (by assumption) ?_) | omega | (simp; done) | (simp; omega))))
  rintro ee w1 ⟨rfl, hb1⟩
  have hw1 : Below w.heap.size w w1 := by (repeat' (first | (with_reducible exact Below.refl _ _) | (with_reducible assumption) | (with_reducible refine Below.alloc ?_ ?_ _) | (with_reducible refine Below.drew ?_) | (with_reducible refine below_drewN ?_ _) | (with_reducible refine Below.setCell ?_ ?_ _) | (with_reducible refine chain ?_ (by assumption) ?_) | omega | (simp; done) | (simp; omega)))
  obtain ⟨hc1, hf1, _⟩ := bcell hb1; have hz1 := hb1.size; (try simp at hz1); (try have hx10 : w.heap.size < w1.heap.size := (by omega)); (try have hx11 : w.heap.size + 1 < w1.heap.size := (by omega)); (try have hx12 : w.heap.size + 1 + 1 < w1.heap.size := (by omega)); (try have hx13 : w.heap.size + 1 + 1 + 1 < w1.heap.size := (by omega))
  go_wp2_with (fail)
  refine (vm_s_t (xs := ys) HP.out ?_ HM.out).mono ?_
  · exact HB.out.mono (by (repeat' (first | (with_reducible exact Below.refl _ _) | (with_reducible assumption) | (with_reducible refine Below.alloc ?_ ?_ _) | (with_reducible refine Below.drew ?_) | (with_reducible refine below_drewN ?_ _) | (with_reducible refine Below.setCell ?_ ?_ _) | (with_reducible refine chain ?_ (by assumption) ?_) | omega | (simp; done) | (simp; omega))))
  rintro ee w2 ⟨rfl, hb2⟩
  have hw2 : Below w.heap.size w w2 := by (repeat' (first | (with_reducible exact Below.refl _ _) | (with_reducible assumption) | (with_reducible refine Below.alloc ?_ ?_ _) | (with_reducible refine Below.drew ?_) | (with_reducible refine below_drewN ?_ _) | (with_reducible refine Below.setCell ?_ ?_ _) | (with_reducible refine chain ?_ (by assumption) ?_) | omega | (simp; done) | (simp; omega)))
  obtain ⟨hc2, hf2, _⟩ := bcell hb2; have hz2 := hb2.size; (try simp at hz2); (try have hx20 : w.heap.size < w2.heap.size := (by omega)); (try have hx21 : w.heap.size + 1 < w2.heap.size := (by omega)); (try have hx22 : w.heap.size + 1 + 1 < w2.heap.size := (by omega)); (try have hx23 : w.heap.size + 1 + 1 + 1 < w2.heap.size := (by omega))
  go_wp2_with (fail)
  refine bodyPost_ret (v := mt 0 0 none 0 0 false) (by first | (simp [results, Try.results35, go_sem, *]; done) | (simp (disch := (first | omega | (simp; done) | (simp; omega))) [results, Try.results35, go_sem, *]; done) | (simp only [results, Try.results35]; go_simp; done)) rfl ⟨rfl, ?_⟩
  (repeat' (first | (with_reducible exact Below.refl _ _) | (with_reducible assumption) | (with_reducible refine Below.alloc ?_ ?_ _) | (with_reducible refine Below.drew ?_) | (with_reducible refine below_drewN ?_ _) | (with_reducible refine Below.setCell ?_ ?_ _) | (with_reducible refine chain ?_ (by assumption) ?_) | omega | (simp; done) | (simp; omega)))

/-- the sum's cells, and which fail -/
def addF (xs ys : List D5) (q : Nat) : D5 := (addS false (xs.getD q z5) (ys.getD q z5)).1
def addG (xs ys : List D5) (q : Nat) : Bool := (addS false (xs.getD q z5) (ys.getD q z5)).2

set_option maxRecDepth 100000 in
set_option maxHeartbeats 8000000 in
theorem mad_s_t {r c : Int} {A B : Option Addr} {n cp cp' : Nat} {xs ys : List D5} {w : World} (hA : Rd w A xs) (hB : Rd w B ys) (hn : xs.length = n) (hm : ys.length = n) (hok : okM r c n xs = true) (hok2 : okM r c n ys = true) :
    Calls Try.prog 35 #[mv r c A n cp, mv r c B n cp'] w fun ee w' => MR w w' ee r c n (tab n (addF xs ys)) (anyB n (addG xs ys)) := by
  obtain ⟨i0, hi0, hu0, hu1, hu2⟩ := info_parts infoD
  have hb : n ≤ 1024 := by
    obtain ⟨_, _, _, _, _, _, _, _, _, h⟩ := okM_nat hok
    exact h
  have HA := hid hA
  have HB := hid hB
  have HN := hid hn
  have HM := hid hm
  have HO := hid hok
  have HP := hid hok2
  clear hA hB hn hm hok hok2
  obtain ⟨F, hF⟩ : ∃ F, F = addF xs ys := ⟨_, rfl⟩
  obtain ⟨G, hG⟩ : ∃ G, G = addG xs ys := ⟨_, rfl⟩
  have HF := hid hF
  have HG := hid hG
  rw [← hF, ← hG]
  clear hF hG
  go_enter Try.func35, Try.ntmps35
  go_wp2_with (fail)
  refine (vm_s_t (xs := xs) HO.out ?_ HN.out).mono ?_
  · exact HA.out.mono (by (repeat' (first | (with_reducible exact Below.refl _ _) | (with_reducible assumption) | (with_reducible refine Below.alloc ?_ ?_ _) | (with_reducible refine Below.drew ?_) | (with_reducible refine below_drewN ?_ _) | (with_reducible refine Below.setCell ?_ ?_ _) | (with_reducible refine chain ?_ (by assumption) ?_) | omega | (simp; done) | (simp; omega))))
  rintro ee w1 ⟨rfl, hb1⟩
  obtain ⟨hc1, hf1, _⟩ := bcell hb1; have hz1 := hb1.size; (try simp at hz1); (try have hx10 : w.heap.size < w1.heap.size := (by omega)); (try have hx11 : w.heap.size + 1 < w1.heap.size := (by omega)); (try have hx12 : w.heap.size + 1 + 1 < w1.heap.size := (by omega)); (try have hx13 : w.heap.size + 1 + 1 + 1 < w1.heap.size := (by omega))
  have Xa1 : Hid (Bx w1 (w.heap.size) 26 #[.int .i64 r, .int .i64 c, .slice A n cp]) := by show Bx _ _ _ _; (repeat' (first | (with_reducible assumption) | (refine Bx.new (by first | (with_reducible rfl) | (simp; done))) | (with_reducible refine Bx.alloc ?_ _) | (with_reducible refine Bx.drew ?_) | (with_reducible refine Bx.drewN ?_ _) | (with_reducible refine Bx.mono ?_ (by assumption)) | (with_reducible refine Bx.badly ?_ (by assumption) (by omega)) | (with_reducible refine Bx.far ?_ (by (try simp only [World.size_alloc, World.size_drew]); omega)) | (with_reducible refine Bx.set ?_ rfl) | (with_reducible refine Bx.grown ?_ (by assumption) (by assumption))))
  have Xb1 : Hid (Bx w1 (w.heap.size + 1) 26 #[.int .i64 r, .int .i64 c, .slice B n cp']) := by show Bx _ _ _ _; (repeat' (first | (with_reducible assumption) | (refine Bx.new (by first | (with_reducible rfl) | (simp; done))) | (with_reducible refine Bx.alloc ?_ _) | (with_reducible refine Bx.drew ?_) | (with_reducible refine Bx.drewN ?_ _) | (with_reducible refine Bx.mono ?_ (by assumption)) | (with_reducible refine Bx.badly ?_ (by assumption) (by omega)) | (with_reducible refine Bx.far ?_ (by (try simp only [World.size_alloc, World.size_drew]); omega)) | (with_reducible refine Bx.set ?_ rfl) | (with_reducible refine Bx.grown ?_ (by assumption) (by assumption))))
  have Xz1 : Hid (Bx w1 (w.heap.size + 1 + 1) 26 #[.int .i64 0, .int .i64 0, .slice none 0 0]) := by show Bx _ _ _ _; (repeat' (first | (with_reducible assumption) | (refine Bx.new (by first | (with_reducible rfl) | (simp; done))) | (with_reducible refine Bx.alloc ?_ _) | (with_reducible refine Bx.drew ?_) | (with_reducible refine Bx.drewN ?_ _) | (with_reducible refine Bx.mono ?_ (by assumption)) | (with_reducible refine Bx.badly ?_ (by assumption) (by omega)) | (with_reducible refine Bx.far ?_ (by (try simp only [World.size_alloc, World.size_drew]); omega)) | (with_reducible refine Bx.set ?_ rfl) | (with_reducible refine Bx.grown ?_ (by assumption) (by assumption))))
  have hw1 : Below w.heap.size w w1 := by (repeat' (first | (with_reducible exact Below.refl _ _) | (with_reducible assumption) | (with_reducible refine Below.alloc ?_ ?_ _) | (with_reducible refine Below.drew ?_) | (with_reducible refine below_drewN ?_ _) | (with_reducible refine Below.setCell ?_ ?_ _) | (with_reducible refine chain ?_ (by assumption) ?_) | omega | (simp; done) | (simp; omega)))
  go_wp2_with (fail)
  refine (vm_s_t (xs := ys) HP.out ?_ HM.out).mono ?_
  · exact HB.out.mono (by (repeat' (first | (with_reducible exact Below.refl _ _) | (with_reducible assumption) | (with_reducible refine Below.alloc ?_ ?_ _) | (with_reducible refine Below.drew ?_) | (with_reducible refine below_drewN ?_ _) | (with_reducible refine Below.setCell ?_ ?_ _) | (with_reducible refine chain ?_ (by assumption) ?_) | omega | (simp; done) | (simp; omega))))
  rintro ee w2 ⟨rfl, hb2⟩
  obtain ⟨hc2, hf2, _⟩ := bcell hb2; have hz2 := hb2.size; (try simp at hz2); (try have hx20 : w.heap.size < w2.heap.size := (by omega)); (try have hx21 : w.heap.size + 1 < w2.heap.size := (by omega)); (try have hx22 : w.heap.size + 1 + 1 < w2.heap.size := (by omega)); (try have hx23 : w.heap.size + 1 + 1 + 1 < w2.heap.size := (by omega))
  have hw2 : Below w.heap.size w w2 := by (repeat' (first | (with_reducible exact Below.refl _ _) | (with_reducible assumption) | (with_reducible refine Below.alloc ?_ ?_ _) | (with_reducible refine Below.drew ?_) | (with_reducible refine below_drewN ?_ _) | (with_reducible refine Below.setCell ?_ ?_ _) | (with_reducible refine chain ?_ (by assumption) ?_) | omega | (simp; done) | (simp; omega)))
  have Xa2 := hid (Xa1.out.mono hb2)
  have Xb2 := hid (Xb1.out.mono hb2)
  have Xz2 := hid (Xz1.out.mono hb2)
  clear Xa1 Xb1 Xz1
  go_wp2_with (fail)
  go_loopg [42] n (fun q s1 wr => ∃ (j : Nat) (v : Value) (z : Bool) (zs : List D5), j + q = n ∧ s1 = .int .i64 (j : Int) ∧ Hid (Bx wr (w.heap.size) 26 #[.int .i64 r, .int .i64 c, .slice A n cp]) ∧ Hid (Bx wr (w.heap.size + 1) 26 #[.int .i64 r, .int .i64 c, .slice B n cp']) ∧ Hid (Bx wr (w.heap.size + 1 + 1) 26 #[.int .i64 0, .int .i64 0, .slice none 0 0]) ∧ Hid (Bx wr (w2.heap.size) 76 #[.bool z]) ∧ Hid (Bx wr (w2.heap.size + 1) 26 #[.int .i64 r, .int .i64 c, v]) ∧ Hid (Own5 wr (w2.heap.size + 1 + 1) 37 v zs) ∧ Hid (Sofar z zs j F G) ∧ w2.heap.size + 1 + 1 ≤ wr.heap.size ∧ Below w.heap.size w wr)
  case atStart =>
    have R1 := Xa2.out
    have R2 := Xb2.out
    have R3 := Xz2.out
    exact ⟨0, .slice none 0 0, false, [], by omega, rfl, (by show Bx _ _ _ _; (repeat' (first | (with_reducible assumption) | (refine Bx.new (by first | (with_reducible rfl) | (simp; done))) | (with_reducible refine Bx.alloc ?_ _) | (with_reducible refine Bx.drew ?_) | (with_reducible refine Bx.drewN ?_ _) | (with_reducible refine Bx.mono ?_ (by assumption)) | (with_reducible refine Bx.badly ?_ (by assumption) (by omega)) | (with_reducible refine Bx.far ?_ (by (try simp only [World.size_alloc, World.size_drew]); omega)) | (with_reducible refine Bx.set ?_ rfl) | (with_reducible refine Bx.grown ?_ (by assumption) (by assumption))))), (by show Bx _ _ _ _; (repeat' (first | (with_reducible assumption) | (refine Bx.new (by first | (with_reducible rfl) | (simp; done))) | (with_reducible refine Bx.alloc ?_ _) | (with_reducible refine Bx.drew ?_) | (with_reducible refine Bx.drewN ?_ _) | (with_reducible refine Bx.mono ?_ (by assumption)) | (with_reducible refine Bx.badly ?_ (by assumption) (by omega)) | (with_reducible refine Bx.far ?_ (by (try simp only [World.size_alloc, World.size_drew]); omega)) | (with_reducible refine Bx.set ?_ rfl) | (with_reducible refine Bx.grown ?_ (by assumption) (by assumption))))), (by show Bx _ _ _ _; (repeat' (first | (with_reducible assumption) | (refine Bx.new (by first | (with_reducible rfl) | (simp; done))) | (with_reducible refine Bx.alloc ?_ _) | (with_reducible refine Bx.drew ?_) | (with_reducible refine Bx.drewN ?_ _) | (with_reducible refine Bx.mono ?_ (by assumption)) | (with_reducible refine Bx.badly ?_ (by assumption) (by omega)) | (with_reducible refine Bx.far ?_ (by (try simp only [World.size_alloc, World.size_drew]); omega)) | (with_reducible refine Bx.set ?_ rfl) | (with_reducible refine Bx.grown ?_ (by assumption) (by assumption))))), (by show Bx _ _ _ _; (repeat' (first | (with_reducible assumption) | (refine Bx.new (by first | (with_reducible rfl) | (simp; done))) | (with_reducible refine Bx.alloc ?_ _) | (with_reducible refine Bx.drew ?_) | (with_reducible refine Bx.drewN ?_ _) | (with_reducible refine Bx.mono ?_ (by assumption)) | (with_reducible refine Bx.badly ?_ (by assumption) (by omega)) | (with_reducible refine Bx.far ?_ (by (try simp only [World.size_alloc, World.size_drew]); omega)) | (with_reducible refine Bx.set ?_ rfl) | (with_reducible refine Bx.grown ?_ (by assumption) (by assumption))))), (by show Bx _ _ _ _; (repeat' (first | (with_reducible assumption) | (refine Bx.new (by first | (with_reducible rfl) | (simp; done))) | (with_reducible refine Bx.alloc ?_ _) | (with_reducible refine Bx.drew ?_) | (with_reducible refine Bx.drewN ?_ _) | (with_reducible refine Bx.mono ?_ (by assumption)) | (with_reducible refine Bx.badly ?_ (by assumption) (by omega)) | (with_reducible refine Bx.far ?_ (by (try simp only [World.size_alloc, World.size_drew]); omega)) | (with_reducible refine Bx.set ?_ rfl) | (with_reducible refine Bx.grown ?_ (by assumption) (by assumption))))), Own5.nil _ _ _, Sofar.start _ _, by simp, by (repeat' (first | (with_reducible exact Below.refl _ _) | (with_reducible assumption) | (with_reducible refine Below.alloc ?_ ?_ _) | (with_reducible refine Below.drew ?_) | (with_reducible refine below_drewN ?_ _) | (with_reducible refine Below.setCell ?_ ?_ _) | (with_reducible refine chain ?_ (by assumption) ?_) | omega | (simp; done) | (simp; omega)))⟩
  case round =>
    obtain ⟨j, v, z, zs, hj, rfl, Xa, Xb, Xz, Xf, Xo, HOw, HS, hsz, hB⟩ := hrel
    clear Xa2 Xb2 Xz2
    have ca0 := Xa.out.c 0 rfl
    have ca1 := Xa.out.c 1 rfl
    have ca2 := Xa.out.c 2 rfl
    have la := Xa.out.lt
    have cb0 := Xb.out.c 0 rfl
    have cb1 := Xb.out.c 1 rfl
    have cb2 := Xb.out.c 2 rfl
    have lb := Xb.out.lt
    have cz0 := Xz.out.c 0 rfl
    have cz1 := Xz.out.c 1 rfl
    have cz2 := Xz.out.c 2 rfl
    have lz := Xz.out.lt
    have fz := Xz.out.f
    have cf0 := Xf.out.c 0 rfl
    have lf := Xf.out.lt
    have ff := Xf.out.f
    have co0 := Xo.out.c 0 rfl
    have co1 := Xo.out.c 1 rfl
    have co2 := Xo.out.c 2 rfl
    have lo := Xo.out.lt
    have fo := Xo.out.f
    cases gk with
    | zero =>
      obtain rfl : j = n := by omega
      obtain ⟨Bo, cq, hv, hRd, hBa⟩ := HOw.out.form
      rw [HS.out.1] at hv
      subst hv
      have HBa := hid hBa
      have HRd := hid hRd
      clear hRd hBa
      have hBq := hB.size
      cases z
      · go_wp2_with (fail)
        refine (cmat_f (by first | assumption | exact cf0)).mono ?_
        rintro ee w5 ⟨rfl, hb5⟩
        have hz5 := hb5.size
        have Yz := Xz.out.mono hb5
        have dz0 := Yz.c 0 rfl
        have dz1 := Yz.c 1 rfl
        have dz2 := Yz.c 2 rfl
        have dzf := Yz.f
        have hR5 := hid (HRd.out.mono hb5)
        clear Yz
        go_wp2_with (fail)
        refine bodyPost_ret (v := mt r c Bo j cq true) (by first | (simp [results, Try.results35, go_sem, *]; done) | (simp (disch := (first | omega | (simp; done) | (simp; omega))) [results, Try.results35, go_sem, *]; done) | (simp only [results, Try.results35]; go_simp; done)) rfl ⟨fun h => ?_, fun _ => ⟨Bo, cq, rfl, ?_, fun a ha => by have := (HBa.out a ha).1; omega⟩, ?_⟩
        · rw [← HS.out.2.1] at h; cases h
        · rw [← HS.out.2.2 rfl]
          (repeat' (first | exact hR5.out | refine Rd.far ?_ (fun a ha => by have := (HBa.out a ha).1; show _ ≠ w.heap.size + 1 + 1; omega) _))
        · (repeat' (first | (with_reducible exact Below.refl _ _) | (with_reducible assumption) | (with_reducible refine Below.alloc ?_ ?_ _) | (with_reducible refine Below.drew ?_) | (with_reducible refine below_drewN ?_ _) | (with_reducible refine Below.setCell ?_ ?_ _) | (with_reducible refine chain ?_ (by assumption) ?_) | omega | (simp; done) | (simp; omega)))
      · go_wp2_with (fail)
        refine (cmat_t (by first | assumption | exact cf0)).mono ?_
        rintro ee w5 ⟨rfl, hb5⟩
        have hz5 := hb5.size
        have Yz := Xz.out.mono hb5
        have dz0 := Yz.c 0 rfl
        have dz1 := Yz.c 1 rfl
        have dz2 := Yz.c 2 rfl
        have dzf := Yz.f
        clear Yz
        go_wp2_with (fail)
        refine bodyPost_ret (v := mt 0 0 none 0 0 false) (by first | (simp [results, Try.results35, go_sem, *]; done) | (simp (disch := (first | omega | (simp; done) | (simp; omega))) [results, Try.results35, go_sem, *]; done) | (simp only [results, Try.results35]; go_simp; done)) rfl ⟨fun _ => rfl, fun h => ?_, ?_⟩
        · rw [← HS.out.2.1] at h; cases h
        · (repeat' (first | (with_reducible exact Below.refl _ _) | (with_reducible assumption) | (with_reducible refine Below.alloc ?_ ?_ _) | (with_reducible refine Below.drew ?_) | (with_reducible refine below_drewN ?_ _) | (with_reducible refine Below.setCell ?_ ?_ _) | (with_reducible refine chain ?_ (by assumption) ?_) | omega | (simp; done) | (simp; omega)))
    | succ m =>
      have hlt : j < n := by omega
      have j1 : (j : Int) < (n : Int) := by omega
      obtain ⟨x, hx⟩ : ∃ x, xs[j]? = some x := ⟨_, List.getElem?_eq_getElem (by rw [HN.out]; exact hlt)⟩
      obtain ⟨y, hy⟩ : ∃ y, ys[j]? = some y := ⟨_, List.getElem?_eq_getElem (by rw [HM.out]; exact hlt)⟩
      have HE : Hid (F j = (addS false x y).1 ∧ G j = (addS false x y).2) := by
        show _ ∧ _
        rw [HF.out, HG.out]; unfold addF addG; rw [getD_of hx, getD_of hy]; exact ⟨rfl, rfl⟩
      have HKx := hid (all_get (okM_iff.1 HO.out).2.2.2 hx)
      have HKy := hid (all_get (okM_iff.1 HP.out).2.2.2 hy)
      obtain ⟨g, o, rfl, hC⟩ := HA.out _ x hx
      obtain ⟨g', o', rfl, hC'⟩ := HB.out _ y hy
      obtain ⟨p0, p1, p2, p3, p4⟩ := hC.at_ (hB.block g hC.lt)
      obtain ⟨q0, q1, q2, q3, q4⟩ := hC'.at_ (hB.block g' hC'.lt)
      have hgw := hC.lt
      have hgw' := hC'.lt
      clear hC hC' hx hy
      have hl := HS.out.1
      have HL := hid hl
      clear hl
      have hvl := World.ownsRow.lt HOw.out
      have hBq := hB.size
      have nea : some (w.heap.size) ≠ v.ownBlock := fun e => by have := (hvl _ e.symm).1; omega
      have neb : some (w.heap.size + 1) ≠ v.ownBlock := fun e => by have := (hvl _ e.symm).1; omega
      have nez : some (w.heap.size + 1 + 1) ≠ v.ownBlock := fun e => by have := (hvl _ e.symm).1; omega
      have nef : some (w2.heap.size) ≠ v.ownBlock := fun e => by have := (hvl _ e.symm).1; omega
      have neo : some (w2.heap.size + 1) ≠ v.ownBlock := fun e => by have := (hvl _ e.symm).1; omega
      have neg : some g ≠ v.ownBlock := fun e => by have := (hvl _ e.symm).1; omega
      have neg' : some g' ≠ v.ownBlock := fun e => by have := (hvl _ e.symm).1; omega
      go_wp2_with (fail)
      have yco2 : wr.drew.cell? ⟨w2.heap.size + 1, 2, none⟩ = some (v) := co2
      have yca2 : wr.drew.cell? ⟨w.heap.size, 2, none⟩ = some (.slice (some ⟨g, o, none⟩) n cp) := ca2
      have ycb2 : wr.drew.cell? ⟨w.heap.size + 1, 2, none⟩ = some (.slice (some ⟨g', o', none⟩) n cp') := cb2
      have yp0 : wr.drew.cell? ⟨g, o + j * 5, none⟩ = some (.int .i64 x.a) := p0
      have yp1 : wr.drew.cell? ⟨g, o + j * 5 + 1, none⟩ = some (.int .i64 x.b) := p1
      have yp2 : wr.drew.cell? ⟨g, o + j * 5 + 2, none⟩ = some (.int .i64 x.c) := p2
      have yp3 : wr.drew.cell? ⟨g, o + j * 5 + 3, none⟩ = some (.int .i64 x.d) := p3
      have yp4 : wr.drew.cell? ⟨g, o + j * 5 + 4, none⟩ = some (.int .i64 x.e) := p4
      have yq0 : wr.drew.cell? ⟨g', o' + j * 5, none⟩ = some (.int .i64 y.a) := q0
      have yq1 : wr.drew.cell? ⟨g', o' + j * 5 + 1, none⟩ = some (.int .i64 y.b) := q1
      have yq2 : wr.drew.cell? ⟨g', o' + j * 5 + 2, none⟩ = some (.int .i64 y.c) := q2
      have yq3 : wr.drew.cell? ⟨g', o' + j * 5 + 3, none⟩ = some (.int .i64 y.d) := q3
      have yq4 : wr.drew.cell? ⟨g', o' + j * 5 + 4, none⟩ = some (.int .i64 y.e) := q4
      refine wp_region_x (fun w' => w'.cell? ⟨w2.heap.size + 1, 2, none⟩ = some (v) ∧ w'.cell? ⟨w.heap.size, 2, none⟩ = some (.slice (some ⟨g, o, none⟩) n cp) ∧ w'.cell? ⟨w.heap.size + 1, 2, none⟩ = some (.slice (some ⟨g', o', none⟩) n cp') ∧ w'.cell? ⟨g, o + j * 5, none⟩ = some (.int .i64 x.a) ∧ w'.cell? ⟨g, o + j * 5 + 1, none⟩ = some (.int .i64 x.b) ∧ w'.cell? ⟨g, o + j * 5 + 2, none⟩ = some (.int .i64 x.c) ∧ w'.cell? ⟨g, o + j * 5 + 3, none⟩ = some (.int .i64 x.d) ∧ w'.cell? ⟨g, o + j * 5 + 4, none⟩ = some (.int .i64 x.e) ∧ w'.cell? ⟨g', o' + j * 5, none⟩ = some (.int .i64 y.a) ∧ w'.cell? ⟨g', o' + j * 5 + 1, none⟩ = some (.int .i64 y.b) ∧ w'.cell? ⟨g', o' + j * 5 + 2, none⟩ = some (.int .i64 y.c) ∧ w'.cell? ⟨g', o' + j * 5 + 3, none⟩ = some (.int .i64 y.d) ∧ w'.cell? ⟨g', o' + j * 5 + 4, none⟩ = some (.int .i64 y.e)) 17 (by kernel_rfl) ⟨yco2, yca2, ycb2, yp0, yp1, yp2, yp3, yp4, yq0, yq1, yq2, yq3, yq4⟩ (fun hS0 => ?_)
      refine wpAnyX_take (i := 0) (oi := _) (v := ?_) rfl (by kernel_rfl) (by kernel_rfl) (by kernel_rfl) (by kernel_rfl) (fun _ _ _ h => h) (Or.inl ⟨by rfl, ?_⟩) hS0 ?_
      rotate_left 1
      · (intro w hSw; (try dsimp only at hSw); go_simp; (try with_reducible rfl))
      try simp only [Act.put, List.setIfInBounds_toArray, List.set_cons_zero, List.set_cons_succ]
      refine wpAnyX_take (i := 1) (oi := _) (v := ?_) rfl (by kernel_rfl) (by kernel_rfl) (by kernel_rfl) (by kernel_rfl) (fun _ _ _ h => h) (Or.inl ⟨by rfl, ?_⟩) hS0 ?_
      rotate_left 1
      · (intro w hSw; (try dsimp only at hSw); go_simp; (try with_reducible rfl))
      try simp only [Act.put, List.setIfInBounds_toArray, List.set_cons_zero, List.set_cons_succ]
      refine wpAnyX_take (i := 2) (oi := _) (v := ?_) rfl (by kernel_rfl) (by kernel_rfl) (by kernel_rfl) (by kernel_rfl) (fun _ _ _ h => h) (Or.inl ⟨by rfl, ?_⟩) hS0 ?_
      rotate_left 1
      · (intro w hSw; (try dsimp only at hSw); go_simp; (try with_reducible rfl))
      try simp only [Act.put, List.setIfInBounds_toArray, List.set_cons_zero, List.set_cons_succ]
      refine wpAnyX_take (i := 3) (oi := _) (v := ?_) rfl (by kernel_rfl) (by kernel_rfl) (by kernel_rfl) (by kernel_rfl) (fun _ _ _ h => h) (Or.inl ⟨by rfl, ?_⟩) hS0 ?_
      rotate_left 1
      · (intro w hSw; (try dsimp only at hSw); go_simp; (try with_reducible rfl))
      try simp only [Act.put, List.setIfInBounds_toArray, List.set_cons_zero, List.set_cons_succ]
      refine wpAnyX_take (i := 4) (oi := _) (v := ?_) rfl (by kernel_rfl) (by kernel_rfl) (by kernel_rfl) (by kernel_rfl) (fun _ _ _ h => h) (Or.inl ⟨by rfl, ?_⟩) hS0 ?_
      rotate_left 1
      · (intro w hSw; (try dsimp only at hSw); go_simp; (try with_reducible rfl))
      try simp only [Act.put, List.setIfInBounds_toArray, List.set_cons_zero, List.set_cons_succ]
      refine wpAnyX_take (i := 5) (oi := _) (v := ?_) rfl (by kernel_rfl) (by kernel_rfl) (by kernel_rfl) (by kernel_rfl) (fun _ _ _ h => h) (Or.inl ⟨by rfl, ?_⟩) hS0 ?_
      rotate_left 1
      · (intro w hSw; (try dsimp only at hSw); go_simp; (try with_reducible rfl))
      try simp only [Act.put, List.setIfInBounds_toArray, List.set_cons_zero, List.set_cons_succ]
      refine wpAnyX_take (i := 6) (oi := _) (v := ?_) rfl (by kernel_rfl) (by kernel_rfl) (by kernel_rfl) (by kernel_rfl) (fun _ _ _ h => h) (Or.inl ⟨by rfl, ?_⟩) hS0 ?_
      rotate_left 1
      · (intro w hSw; (try dsimp only at hSw); go_simp; (try with_reducible rfl))
      try simp only [Act.put, List.setIfInBounds_toArray, List.set_cons_zero, List.set_cons_succ]
      refine wpAnyX_take (i := 7) (oi := _) (v := ?_) rfl (by kernel_rfl) (by kernel_rfl) (by kernel_rfl) (by kernel_rfl) (fun _ _ _ h => h) (Or.inl ⟨by rfl, ?_⟩) hS0 ?_
      rotate_left 1
      · (intro w hSw; (try dsimp only at hSw); go_simp; (try with_reducible rfl))
      try simp only [Act.put, List.setIfInBounds_toArray, List.set_cons_zero, List.set_cons_succ]
      refine wpAnyX_take (i := 8) (oi := _) (v := ?_) rfl (by kernel_rfl) (by kernel_rfl) (by kernel_rfl) (by kernel_rfl) (fun _ _ _ h => h) (Or.inl ⟨by rfl, ?_⟩) hS0 ?_
      rotate_left 1
      · (intro w hSw; (try dsimp only at hSw); go_simp; (try with_reducible rfl))
      try simp only [Act.put, List.setIfInBounds_toArray, List.set_cons_zero, List.set_cons_succ]
      refine wpAnyX_take (i := 9) (oi := _) (v := ?_) rfl (by kernel_rfl) (by kernel_rfl) (by kernel_rfl) (by kernel_rfl) (fun _ _ _ h => h) (Or.inl ⟨by rfl, ?_⟩) hS0 ?_
      rotate_left 1
      · (intro w hSw; (try dsimp only at hSw); go_simp; (try with_reducible rfl))
      try simp only [Act.put, List.setIfInBounds_toArray, List.set_cons_zero, List.set_cons_succ]
      refine wpAnyX_take (i := 10) (oi := _) (v := ?_) rfl (by kernel_rfl) (by kernel_rfl) (by kernel_rfl) (by kernel_rfl) (fun _ _ _ h => h) (Or.inl ⟨by rfl, ?_⟩) hS0 ?_
      rotate_left 1
      · (intro w hSw; (try dsimp only at hSw); go_simp; (try with_reducible rfl))
      try simp only [Act.put, List.setIfInBounds_toArray, List.set_cons_zero, List.set_cons_succ]
      refine wpAnyX_take (i := 11) (oi := _) (v := ?_) rfl (by kernel_rfl) (by kernel_rfl) (by kernel_rfl) (by kernel_rfl) (fun _ _ _ h => h) (Or.inl ⟨by rfl, ?_⟩) hS0 ?_
      rotate_left 1
      · (intro w hSw; (try dsimp only at hSw); go_simp; (try with_reducible rfl))
      try simp only [Act.put, List.setIfInBounds_toArray, List.set_cons_zero, List.set_cons_succ]
      refine wpAnyX_take (i := 12) (oi := _) (v := ?_) rfl (by kernel_rfl) (by kernel_rfl) (by kernel_rfl) (by kernel_rfl) (fun _ _ _ h => h) (Or.inl ⟨by rfl, ?_⟩) hS0 ?_
      rotate_left 1
      · (intro w hSw; (try dsimp only at hSw); go_simp; (try with_reducible rfl))
      try simp only [Act.put, List.setIfInBounds_toArray, List.set_cons_zero, List.set_cons_succ]
      refine wpAnyX_one (i := 13) (o := _) rfl (by kernel_rfl) (fun K hK => ?_)
      go_simp
      refine (cadd (x := x) (y := y) (z := z) HKx.out HKy.out (by exact cf0) (by exact ff 0)).mono ?_
      rintro ee w8 ⟨rfl, hb8⟩
      have hb9 := bad_drew hb8
      have hz8 := bad_size hb9
      refine hK.out _ _ (fun _ => ?_) (fun hS1 => ?_)
      · exact ⟨kbad hb8 (by omega) (hS0.1), kbad hb8 (by omega) (hS0.2.1), kbad hb8 (by omega) (hS0.2.2.1), kbad hb8 (by omega) (hS0.2.2.2.1), kbad hb8 (by omega) (hS0.2.2.2.2.1), kbad hb8 (by omega) (hS0.2.2.2.2.2.1), kbad hb8 (by omega) (hS0.2.2.2.2.2.2.1), kbad hb8 (by omega) (hS0.2.2.2.2.2.2.2.1), kbad hb8 (by omega) (hS0.2.2.2.2.2.2.2.2.1), kbad hb8 (by omega) (hS0.2.2.2.2.2.2.2.2.2.1), kbad hb8 (by omega) (hS0.2.2.2.2.2.2.2.2.2.2.1), kbad hb8 (by omega) (hS0.2.2.2.2.2.2.2.2.2.2.2.1), kbad hb8 (by omega) (hS0.2.2.2.2.2.2.2.2.2.2.2.2)⟩
      clear hK K
      have hS1 := hS1 (by decide)
      try simp only [Act.put, List.setIfInBounds_toArray, List.set_cons_zero, List.set_cons_succ]
      refine wpAnyX_one (i := 14) (o := _) rfl (by kernel_rfl) (fun K hK => ?_)
      go_simp
      refine hK.out _ _ (fun _ => ?_) (fun hS2 => ?_)
      · first | exact ⟨kal (hS1.1), kal (hS1.2.1), kal (hS1.2.2.1), kal (hS1.2.2.2.1), kal (hS1.2.2.2.2.1), kal (hS1.2.2.2.2.2.1), kal (hS1.2.2.2.2.2.2.1), kal (hS1.2.2.2.2.2.2.2.1), kal (hS1.2.2.2.2.2.2.2.2.1), kal (hS1.2.2.2.2.2.2.2.2.2.1), kal (hS1.2.2.2.2.2.2.2.2.2.2.1), kal (hS1.2.2.2.2.2.2.2.2.2.2.2.1), kal (hS1.2.2.2.2.2.2.2.2.2.2.2.2)⟩ | exact ⟨kald (hS1.1), kald (hS1.2.1), kald (hS1.2.2.1), kald (hS1.2.2.2.1), kald (hS1.2.2.2.2.1), kald (hS1.2.2.2.2.2.1), kald (hS1.2.2.2.2.2.2.1), kald (hS1.2.2.2.2.2.2.2.1), kald (hS1.2.2.2.2.2.2.2.2.1), kald (hS1.2.2.2.2.2.2.2.2.2.1), kald (hS1.2.2.2.2.2.2.2.2.2.2.1), kald (hS1.2.2.2.2.2.2.2.2.2.2.2.1), kald (hS1.2.2.2.2.2.2.2.2.2.2.2.2)⟩
      clear hK K
      have hS2 := hS2 (by decide)
      try simp only [Act.put, List.setIfInBounds_toArray, List.set_cons_zero, List.set_cons_succ]
      refine wpAnyX_one (i := 15) (o := _) rfl (by kernel_rfl) (fun K hK => ?_)
      refine step_append_lies _ (by rfl) _ _ _ (by rfl) (w2.heap.size + 1 + 1) 37 i0 _ 5 40 Try.underlying24 hi0 hu0 hu1 hu2 rfl (by omega) v j (csL zs) (by rfl) (World.ownsRow.alloc (by have := HOw.out.badly hb9 (by omega); unfold Own5 at this; rw [HL.out] at this; exact this) _) ⟨w8.heap.size, 0, none⟩ 1 1 (addS z x y).1.cs (by rfl) (by rfl) (World.news_of_block (cs := (addS z x y).1.cs.toArray) (t := 37) (fr := (0, 0)) (heap_alloc_new _ _)) (by simp [D5.cs, Value.oneCell']) (by omega) (append_ok (by omega)).1 (append_ok (by omega)).2 (by simp; omega) (w8.heap.size + 1) (by simp) ?_
      intro gg cap w9 hown9 hgrow9 hat9 hlt9
      refine hK.out _ _ (fun _ => ?_) (fun hS3 => ?_)
      · exact ⟨hgrow9.cell (hS2.1) neo, hgrow9.cell (hS2.2.1) nea, hgrow9.cell (hS2.2.2.1) neb, hgrow9.cell (hS2.2.2.2.1) neg, hgrow9.cell (hS2.2.2.2.2.1) neg, hgrow9.cell (hS2.2.2.2.2.2.1) neg, hgrow9.cell (hS2.2.2.2.2.2.2.1) neg, hgrow9.cell (hS2.2.2.2.2.2.2.2.1) neg, hgrow9.cell (hS2.2.2.2.2.2.2.2.2.1) neg', hgrow9.cell (hS2.2.2.2.2.2.2.2.2.2.1) neg', hgrow9.cell (hS2.2.2.2.2.2.2.2.2.2.2.1) neg', hgrow9.cell (hS2.2.2.2.2.2.2.2.2.2.2.2.1) neg', hgrow9.cell (hS2.2.2.2.2.2.2.2.2.2.2.2.2) neg'⟩
      clear hK K
      have hS3 := hS3 (by decide)
      try simp only [Act.put, List.setIfInBounds_toArray, List.set_cons_zero, List.set_cons_succ]
      refine wpAnyX_take (i := 16) (oi := _) (v := ?_) rfl (by kernel_rfl) (by kernel_rfl) (by kernel_rfl) (by kernel_rfl) (fun _ _ _ h => h) (Or.inl ⟨by rfl, ?_⟩) hS3 ?_
      rotate_left 1
      · (intro w hSw; (try dsimp only at hSw); go_simp; (try with_reducible rfl))
      try simp only [Act.put, List.setIfInBounds_toArray, List.set_cons_zero, List.set_cons_succ]
      refine wpAnyX_one (i := 17) (o := _) rfl (by kernel_rfl) (fun K hK => ?_)
      have Yo := (Bx.alloc (Xo.out.badly hb9 (by omega)) _).grown hgrow9 neo
      have yo2 := Yo.c 2 rfl
      have yof := Yo.f 2
      go_simp
      refine hK.out _ _ (fun h => absurd rfl h) (fun _ => ?_)
      clear hK K
      try simp only [Act.put, List.setIfInBounds_toArray, List.set_cons_zero, List.set_cons_succ]
      refine wpAnyX_done (by kernel_rfl) ?_ _
      go_wp2_with (fail)
      go_roundg m
      case measure => omega
      case rel =>
        have hz9 := hgrow9.size
        simp only [World.size_alloc] at hz9
        have Ya := (Bx.alloc (Xa.out.badly hb9 (by omega)) _).grown hgrow9 nea
        have Yb := (Bx.alloc (Xb.out.badly hb9 (by omega)) _).grown hgrow9 neb
        have Yz := (Bx.alloc (Xz.out.badly hb9 (by omega)) _).grown hgrow9 nez
        have Yf := (Bx.alloc (Xf.out.bad hb9) _).grown hgrow9 nef
        refine ⟨j + 1, .slice (some ⟨gg, 0, none⟩) (j + 1) cap, (addS z x y).2, zs ++ [(addS z x y).1], by omega, by go_num, Ya.far (by omega), Yb.far (by omega), Yz.far (by omega), Yf.far (by omega), Yo.set rfl, ?_, ?_, by (try simp only [World.size_setCell]); omega, ?_⟩
        · show Own5 _ _ _ _ _
          exact (Own5.snoc HL.out hown9).far (by show w2.heap.size + 1 < _; omega) _
        · exact HS.out.next (fun h => by rw [h, HE.out.1, HE.out.2]) (fun h => by rw [h]; exact addS_t)
        · refine Below.setCell ?_ (by show w.heap.size ≤ w2.heap.size + 1; omega) _
          refine Below.grown ((bad_below hB hb9 (by omega)).alloc (by omega) _) hgrow9 (by simp only [World.size_alloc]; omega) (fun q e => by have := (hvl _ e).1; omega)

end Go.Proofs.Ytdgcanlbdneelaa
