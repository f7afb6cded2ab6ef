/- Contracts of the program's AddMatrix. -/
import Derived.Test.YtdgcanlbdneelaaARow
import Derived.Test.YtdgcanlbdneelaaAddS3
namespace Go.Proofs.Ytdgcanlbdneelaa
open Go.RowKit RM
set_option linter.unusedVariables false
set_option linter.unusedSimpArgs false
attribute [local irreducible] World.setCell

/-- what a program's function of matrices answers -/
def IR (w w' : World) (ee : Ending) (r c : Int) (n : Nat) (zs : List D5) (bad : Bool) : Prop :=
  (bad = true → ee = .returned (mt 0 0 none 0 0 false)) ∧ (bad = false → ∃ g : Nat, ee = .returned (mt r c (some ⟨g, 0, none⟩) n n true) ∧ Bk w' g 37 zs ∧ w.heap.size ≤ g) ∧ Below w.heap.size w w'
theorem size5 : (Try.prog.info? 37).map (·.size) = some 5 := by kernel_rfl
theorem arow0 {g m cs c' N : Nat} {A : Option Addr} {f : Nat → D5} {ys : List D5} {w : World} (hG : Bk w g 37 (tab N f)) (hA : Rd w A ys) (hm : ys.length = m) (hk : m ≤ N) (hN : N ≤ 1024) (hcs : m ≤ cs) (hcs2 : cs ≤ 1048576) (hc : m ≤ c') (hc2 : c' ≤ 1048576) (hne : ∀ a, A = some a → a.block ≠ g) (ho1 : ∀ i, i < m → (f i).ok = true) (ho2 : allB ys = true) :
    Calls Try.prog 57 #[.slice (some ⟨g, 0, none⟩) m cs, .slice A m c'] w fun ee w' => AR w w' ee g (tab N (addP f ys 0 m)) (anyB m (addH f ys 0)) := by
  have h := arow (k := 0) hG hA hm (by omega) hN hcs hcs2 hc hc2 hne (fun i hi => by rw [Nat.zero_add]; exact ho1 i hi) ho2
  simp only [Nat.zero_mul] at h
  exact h
theorem MR.law {w w' : World} {ee : Ending} {r c : Int} {n : Nat} {zs : List D5} (h : MR w w' ee r c n zs false) : ∃ A cp, ee = .returned (mt r c A n cp true) ∧ (Rd w' A zs ∧ (∀ a, A = some a → w.heap.size ≤ a.block)) ∧ Below w.heap.size w w' := by
  obtain ⟨B, cq, he, hr, ha⟩ := h.2.1 rfl
  exact ⟨B, cq, he, ⟨hr, ha⟩, h.2.2⟩
theorem MR.bad {w w' : World} {ee : Ending} {r c : Int} {n : Nat} {zs : List D5} (h : MR w w' ee r c n zs true) : ∃ A cp, ee = .returned (mt 0 0 A 0 cp false) ∧ (Rd w' A [] ∧ (∀ a, A = some a → w.heap.size ≤ a.block)) ∧ Below w.heap.size w w' :=
  ⟨none, 0, h.1 rfl, ⟨Rd.nil _ _, fun a ha => (by cases ha)⟩, h.2.2⟩
theorem IR.law {w w' : World} {ee : Ending} {r c : Int} {n : Nat} {zs : List D5} (h : IR w w' ee r c n zs false) : ∃ A cp, ee = .returned (mt r c A n cp true) ∧ (Ow w' w.heap.size 37 A zs) ∧ Below w.heap.size w w' := by
  obtain ⟨g, he, hk, hg⟩ := h.2.1 rfl
  exact ⟨some ⟨g, 0, none⟩, n, he, hk.ow hg, h.2.2⟩
theorem IR.bad {w w' : World} {ee : Ending} {r c : Int} {n : Nat} {zs : List D5} (h : IR w w' ee r c n zs true) : ∃ A cp, ee = .returned (mt 0 0 A 0 cp false) ∧ (Ow w' w.heap.size 37 A []) ∧ Below w.heap.size w w' :=
  ⟨none, 0, h.1 rfl, Or.inl ⟨rfl, rfl⟩, h.2.2⟩
theorem zero_law {w w' : World} {ee : Ending} (h : ee = .returned (mt 0 0 none 0 0 false) ∧ Below w.heap.size w w') : ∃ A cp, ee = .returned (mt 0 0 A 0 cp false) ∧ (Rd w' A [] ∧ (∀ a, A = some a → w.heap.size ≤ a.block)) ∧ Below w.heap.size w w' :=
  ⟨none, 0, h.1, ⟨Rd.nil _ _, fun a ha => (by cases ha)⟩, h.2⟩
theorem zero_lawI {w w' : World} {ee : Ending} (h : ee = .returned (mt 0 0 none 0 0 false) ∧ Below w.heap.size w w') : ∃ A cp, ee = .returned (mt 0 0 A 0 cp false) ∧ (Ow w' w.heap.size 37 A []) ∧ Below w.heap.size w w' :=
  ⟨none, 0, h.1, Or.inl ⟨rfl, rfl⟩, h.2⟩

set_option maxRecDepth 100000 in
set_option maxHeartbeats 4000000 in
theorem mad_i_v1 {r c r' c' : Int} {g0 h0 n m cp cp' : Nat} {xs ys : List D5} {w : World} (hA : Rd w (some ⟨g0, 0, none⟩) xs) (hB : Rd w (some ⟨h0, 0, none⟩) ys) (hn : xs.length = n) (hm : ys.length = m) (hok : okM r c n xs = false) :
    Calls Try.prog 36 #[mv r c (some ⟨g0, 0, none⟩) n cp, mv r' c' (some ⟨h0, 0, none⟩) m cp'] w fun ee w' => ee = .returned (mt 0 0 none 0 0 false) ∧ Below w.heap.size w w' := by
  have HA := hid hA
  have HB := hid hB
  have HN := hid hn
  have HM := hid hm
  have HO := hid hok
  clear hA hB hn hm hok
  go_enter Try.func36, Try.ntmps36
  go_wp2_with (fail)
  refine (vm_i_f (xs := xs) HO.out ?_ HN.out).mono ?_
  · exact HA.out.mono (by (repeat' (first | (with_reducible exact Below.refl _ _) | (with_reducible assumption) | (with_reducible refine Below.alloc ?_ ?_ _) | (with_reducible refine Below.drew ?_) | (with_reducible refine below_drewN ?_ _) | (with_reducible refine Below.setCell ?_ ?_ _) | (with_reducible refine chain ?_ (by assumption) ?_) | omega | (simp; done) | (simp; omega))))
  rintro ee w1 ⟨rfl, hb1⟩
  have hw1 : Below w.heap.size w w1 := by (repeat' (first | (with_reducible exact Below.refl _ _) | (with_reducible assumption) | (with_reducible refine Below.alloc ?_ ?_ _) | (with_reducible refine Below.drew ?_) | (with_reducible refine below_drewN ?_ _) | (with_reducible refine Below.setCell ?_ ?_ _) | (with_reducible refine chain ?_ (by assumption) ?_) | omega | (simp; done) | (simp; omega)))
  obtain ⟨hc1, hf1, _⟩ := bcell hb1; have hz1 := hb1.size; (try simp at hz1); (try have hx10 : w.heap.size < w1.heap.size := (by omega)); (try have hx11 : w.heap.size + 1 < w1.heap.size := (by omega)); (try have hx12 : w.heap.size + 1 + 1 < w1.heap.size := (by omega)); (try have hx13 : w.heap.size + 1 + 1 + 1 < w1.heap.size := (by omega))
  go_wp2_with (fail)
  refine bodyPost_ret (v := mt 0 0 none 0 0 false) (by first | (simp [results, Try.results36, go_sem, *]; done) | (simp (disch := (first | omega | (simp; done) | (simp; omega))) [results, Try.results36, go_sem, *]; done) | (simp only [results, Try.results36]; go_simp; done)) rfl ⟨rfl, ?_⟩
  (repeat' (first | (with_reducible exact Below.refl _ _) | (with_reducible assumption) | (with_reducible refine Below.alloc ?_ ?_ _) | (with_reducible refine Below.drew ?_) | (with_reducible refine below_drewN ?_ _) | (with_reducible refine Below.setCell ?_ ?_ _) | (with_reducible refine chain ?_ (by assumption) ?_) | omega | (simp; done) | (simp; omega)))

set_option maxRecDepth 100000 in
set_option maxHeartbeats 4000000 in
theorem mad_i_v2 {r c r' c' : Int} {g0 h0 n m cp cp' : Nat} {xs ys : List D5} {w : World} (hA : Rd w (some ⟨g0, 0, none⟩) xs) (hB : Rd w (some ⟨h0, 0, none⟩) ys) (hn : xs.length = n) (hm : ys.length = m) (hok : okM r c n xs = true) (hok2 : okM r' c' m ys = false) :
    Calls Try.prog 36 #[mv r c (some ⟨g0, 0, none⟩) n cp, mv r' c' (some ⟨h0, 0, none⟩) m cp'] w fun ee w' => ee = .returned (mt 0 0 none 0 0 false) ∧ Below w.heap.size w w' := by
  have HA := hid hA
  have HB := hid hB
  have HN := hid hn
  have HM := hid hm
  have HO := hid hok
  have HP := hid hok2
  clear hA hB hn hm hok hok2
  go_enter Try.func36, Try.ntmps36
  go_wp2_with (fail)
  refine (vm_i_t (xs := xs) HO.out ?_ HN.out).mono ?_
  · exact HA.out.mono (by (repeat' (first | (with_reducible exact Below.refl _ _) | (with_reducible assumption) | (with_reducible refine Below.alloc ?_ ?_ _) | (with_reducible refine Below.drew ?_) | (with_reducible refine below_drewN ?_ _) | (with_reducible refine Below.setCell ?_ ?_ _) | (with_reducible refine chain ?_ (by assumption) ?_) | omega | (simp; done) | (simp; omega))))
  rintro ee w1 ⟨rfl, hb1⟩
  have hw1 : Below w.heap.size w w1 := by (repeat' (first | (with_reducible exact Below.refl _ _) | (with_reducible assumption) | (with_reducible refine Below.alloc ?_ ?_ _) | (with_reducible refine Below.drew ?_) | (with_reducible refine below_drewN ?_ _) | (with_reducible refine Below.setCell ?_ ?_ _) | (with_reducible refine chain ?_ (by assumption) ?_) | omega | (simp; done) | (simp; omega)))
  obtain ⟨hc1, hf1, _⟩ := bcell hb1; have hz1 := hb1.size; (try simp at hz1); (try have hx10 : w.heap.size < w1.heap.size := (by omega)); (try have hx11 : w.heap.size + 1 < w1.heap.size := (by omega)); (try have hx12 : w.heap.size + 1 + 1 < w1.heap.size := (by omega)); (try have hx13 : w.heap.size + 1 + 1 + 1 < w1.heap.size := (by omega))
  go_wp2_with (fail)
  refine (vm_i_f (xs := ys) HP.out ?_ HM.out).mono ?_
  · exact HB.out.mono (by (repeat' (first | (with_reducible exact Below.refl _ _) | (with_reducible assumption) | (with_reducible refine Below.alloc ?_ ?_ _) | (with_reducible refine Below.drew ?_) | (with_reducible refine below_drewN ?_ _) | (with_reducible refine Below.setCell ?_ ?_ _) | (with_reducible refine chain ?_ (by assumption) ?_) | omega | (simp; done) | (simp; omega))))
  rintro ee w2 ⟨rfl, hb2⟩
  have hw2 : Below w.heap.size w w2 := by (repeat' (first | (with_reducible exact Below.refl _ _) | (with_reducible assumption) | (with_reducible refine Below.alloc ?_ ?_ _) | (with_reducible refine Below.drew ?_) | (with_reducible refine below_drewN ?_ _) | (with_reducible refine Below.setCell ?_ ?_ _) | (with_reducible refine chain ?_ (by assumption) ?_) | omega | (simp; done) | (simp; omega)))
  obtain ⟨hc2, hf2, _⟩ := bcell hb2; have hz2 := hb2.size; (try simp at hz2); (try have hx20 : w.heap.size < w2.heap.size := (by omega)); (try have hx21 : w.heap.size + 1 < w2.heap.size := (by omega)); (try have hx22 : w.heap.size + 1 + 1 < w2.heap.size := (by omega)); (try have hx23 : w.heap.size + 1 + 1 + 1 < w2.heap.size := (by omega))
  go_wp2_with (fail)
  refine bodyPost_ret (v := mt 0 0 none 0 0 false) (by first | (simp [results, Try.results36, go_sem, *]; done) | (simp (disch := (first | omega | (simp; done) | (simp; omega))) [results, Try.results36, go_sem, *]; done) | (simp only [results, Try.results36]; go_simp; done)) rfl ⟨rfl, ?_⟩
  (repeat' (first | (with_reducible exact Below.refl _ _) | (with_reducible assumption) | (with_reducible refine Below.alloc ?_ ?_ _) | (with_reducible refine Below.drew ?_) | (with_reducible refine below_drewN ?_ _) | (with_reducible refine Below.setCell ?_ ?_ _) | (with_reducible refine chain ?_ (by assumption) ?_) | omega | (simp; done) | (simp; omega)))

set_option maxRecDepth 100000 in
set_option maxHeartbeats 4000000 in
theorem mad_i_r {r c r' c' : Int} {g0 h0 n m cp cp' : Nat} {xs ys : List D5} {w : World} (hA : Rd w (some ⟨g0, 0, none⟩) xs) (hB : Rd w (some ⟨h0, 0, none⟩) ys) (hn : xs.length = n) (hm : ys.length = m) (hok : okM r c n xs = true) (hok2 : okM r' c' m ys = true) (hr : r ≠ r') :
    Calls Try.prog 36 #[mv r c (some ⟨g0, 0, none⟩) n cp, mv r' c' (some ⟨h0, 0, none⟩) m cp'] w fun ee w' => ee = .returned (mt 0 0 none 0 0 false) ∧ Below w.heap.size w w' := by
  have h1 : (r != r') = true := by simpa using hr
  have HA := hid hA
  have HB := hid hB
  have HN := hid hn
  have HM := hid hm
  have HO := hid hok
  have HP := hid hok2
  clear hA hB hn hm hok hok2 hr
  go_enter Try.func36, Try.ntmps36
  go_wp2_with (fail)
  refine (vm_i_t (xs := xs) HO.out ?_ HN.out).mono ?_
  · exact HA.out.mono (by (repeat' (first | (with_reducible exact Below.refl _ _) | (with_reducible assumption) | (with_reducible refine Below.alloc ?_ ?_ _) | (with_reducible refine Below.drew ?_) | (with_reducible refine below_drewN ?_ _) | (with_reducible refine Below.setCell ?_ ?_ _) | (with_reducible refine chain ?_ (by assumption) ?_) | omega | (simp; done) | (simp; omega))))
  rintro ee w1 ⟨rfl, hb1⟩
  have hw1 : Below w.heap.size w w1 := by (repeat' (first | (with_reducible exact Below.refl _ _) | (with_reducible assumption) | (with_reducible refine Below.alloc ?_ ?_ _) | (with_reducible refine Below.drew ?_) | (with_reducible refine below_drewN ?_ _) | (with_reducible refine Below.setCell ?_ ?_ _) | (with_reducible refine chain ?_ (by assumption) ?_) | omega | (simp; done) | (simp; omega)))
  obtain ⟨hc1, hf1, _⟩ := bcell hb1; have hz1 := hb1.size; (try simp at hz1); (try have hx10 : w.heap.size < w1.heap.size := (by omega)); (try have hx11 : w.heap.size + 1 < w1.heap.size := (by omega)); (try have hx12 : w.heap.size + 1 + 1 < w1.heap.size := (by omega)); (try have hx13 : w.heap.size + 1 + 1 + 1 < w1.heap.size := (by omega))
  go_wp2_with (fail)
  refine (vm_i_t (xs := ys) HP.out ?_ HM.out).mono ?_
  · exact HB.out.mono (by (repeat' (first | (with_reducible exact Below.refl _ _) | (with_reducible assumption) | (with_reducible refine Below.alloc ?_ ?_ _) | (with_reducible refine Below.drew ?_) | (with_reducible refine below_drewN ?_ _) | (with_reducible refine Below.setCell ?_ ?_ _) | (with_reducible refine chain ?_ (by assumption) ?_) | omega | (simp; done) | (simp; omega))))
  rintro ee w2 ⟨rfl, hb2⟩
  have hw2 : Below w.heap.size w w2 := by (repeat' (first | (with_reducible exact Below.refl _ _) | (with_reducible assumption) | (with_reducible refine Below.alloc ?_ ?_ _) | (with_reducible refine Below.drew ?_) | (with_reducible refine below_drewN ?_ _) | (with_reducible refine Below.setCell ?_ ?_ _) | (with_reducible refine chain ?_ (by assumption) ?_) | omega | (simp; done) | (simp; omega)))
  obtain ⟨hc2, hf2, _⟩ := bcell hb2; have hz2 := hb2.size; (try simp at hz2); (try have hx20 : w.heap.size < w2.heap.size := (by omega)); (try have hx21 : w.heap.size + 1 < w2.heap.size := (by omega)); (try have hx22 : w.heap.size + 1 + 1 < w2.heap.size := (by omega)); (try have hx23 : w.heap.size + 1 + 1 + 1 < w2.heap.size := (by omega))
  go_wp2_with (fail)
  refine bodyPost_ret (v := mt 0 0 none 0 0 false) (by first | (simp [results, Try.results36, go_sem, *]; done) | (simp (disch := (first | omega | (simp; done) | (simp; omega))) [results, Try.results36, go_sem, *]; done) | (simp only [results, Try.results36]; go_simp; done)) rfl ⟨rfl, ?_⟩
  (repeat' (first | (with_reducible exact Below.refl _ _) | (with_reducible assumption) | (with_reducible refine Below.alloc ?_ ?_ _) | (with_reducible refine Below.drew ?_) | (with_reducible refine below_drewN ?_ _) | (with_reducible refine Below.setCell ?_ ?_ _) | (with_reducible refine chain ?_ (by assumption) ?_) | omega | (simp; done) | (simp; omega)))

set_option maxRecDepth 100000 in
set_option maxHeartbeats 4000000 in
theorem mad_i_c {r c r' c' : Int} {g0 h0 n m cp cp' : Nat} {xs ys : List D5} {w : World} (hA : Rd w (some ⟨g0, 0, none⟩) xs) (hB : Rd w (some ⟨h0, 0, none⟩) ys) (hn : xs.length = n) (hm : ys.length = m) (hok : okM r c n xs = true) (hok2 : okM r' c' m ys = true) (hr : r = r') (hc : c ≠ c') :
    Calls Try.prog 36 #[mv r c (some ⟨g0, 0, none⟩) n cp, mv r' c' (some ⟨h0, 0, none⟩) m cp'] w fun ee w' => ee = .returned (mt 0 0 none 0 0 false) ∧ Below w.heap.size w w' := by
  subst hr
  have h1 : (c != c') = true := by simpa using hc
  have HA := hid hA
  have HB := hid hB
  have HN := hid hn
  have HM := hid hm
  have HO := hid hok
  have HP := hid hok2
  clear hA hB hn hm hok hok2 hc
  go_enter Try.func36, Try.ntmps36
  go_wp2_with (fail)
  refine (vm_i_t (xs := xs) HO.out ?_ HN.out).mono ?_
  · exact HA.out.mono (by (repeat' (first | (with_reducible exact Below.refl _ _) | (with_reducible assumption) | (with_reducible refine Below.alloc ?_ ?_ _) | (with_reducible refine Below.drew ?_) | (with_reducible refine below_drewN ?_ _) | (with_reducible refine Below.setCell ?_ ?_ _) | (with_reducible refine chain ?_ (by assumption) ?_) | omega | (simp; done) | (simp; omega))))
  rintro ee w1 ⟨rfl, hb1⟩
  have hw1 : Below w.heap.size w w1 := by (repeat' (first | (with_reducible exact Below.refl _ _) | (with_reducible assumption) | (with_reducible refine Below.alloc ?_ ?_ _) | (with_reducible refine Below.drew ?_) | (with_reducible refine below_drewN ?_ _) | (with_reducible refine Below.setCell ?_ ?_ _) | (with_reducible refine chain ?_ (by assumption) ?_) | omega | (simp; done) | (simp; omega)))
  obtain ⟨hc1, hf1, _⟩ := bcell hb1; have hz1 := hb1.size; (try simp at hz1); (try have hx10 : w.heap.size < w1.heap.size := (by omega)); (try have hx11 : w.heap.size + 1 < w1.heap.size := (by omega)); (try have hx12 : w.heap.size + 1 + 1 < w1.heap.size := (by omega)); (try have hx13 : w.heap.size + 1 + 1 + 1 < w1.heap.size := (by omega))
  go_wp2_with (fail)
  refine (vm_i_t (xs := ys) HP.out ?_ HM.out).mono ?_
  · exact HB.out.mono (by (repeat' (first | (with_reducible exact Below.refl _ _) | (with_reducible assumption) | (with_reducible refine Below.alloc ?_ ?_ _) | (with_reducible refine Below.drew ?_) | (with_reducible refine below_drewN ?_ _) | (with_reducible refine Below.setCell ?_ ?_ _) | (with_reducible refine chain ?_ (by assumption) ?_) | omega | (simp; done) | (simp; omega))))
  rintro ee w2 ⟨rfl, hb2⟩
  have hw2 : Below w.heap.size w w2 := by (repeat' (first | (with_reducible exact Below.refl _ _) | (with_reducible assumption) | (with_reducible refine Below.alloc ?_ ?_ _) | (with_reducible refine Below.drew ?_) | (with_reducible refine below_drewN ?_ _) | (with_reducible refine Below.setCell ?_ ?_ _) | (with_reducible refine chain ?_ (by assumption) ?_) | omega | (simp; done) | (simp; omega)))
  obtain ⟨hc2, hf2, _⟩ := bcell hb2; have hz2 := hb2.size; (try simp at hz2); (try have hx20 : w.heap.size < w2.heap.size := (by omega)); (try have hx21 : w.heap.size + 1 < w2.heap.size := (by omega)); (try have hx22 : w.heap.size + 1 + 1 < w2.heap.size := (by omega)); (try have hx23 : w.heap.size + 1 + 1 + 1 < w2.heap.size := (by omega))
  go_wp2_with (fail)
  refine bodyPost_ret (v := mt 0 0 none 0 0 false) (by first | (simp [results, Try.results36, go_sem, *]; done) | (simp (disch := (first | omega | (simp; done) | (simp; omega))) [results, Try.results36, go_sem, *]; done) | (simp only [results, Try.results36]; go_simp; done)) rfl ⟨rfl, ?_⟩
  (repeat' (first | (with_reducible exact Below.refl _ _) | (with_reducible assumption) | (with_reducible refine Below.alloc ?_ ?_ _) | (with_reducible refine Below.drew ?_) | (with_reducible refine below_drewN ?_ _) | (with_reducible refine Below.setCell ?_ ?_ _) | (with_reducible refine chain ?_ (by assumption) ?_) | omega | (simp; done) | (simp; omega)))

set_option maxRecDepth 100000 in
set_option maxHeartbeats 8000000 in
theorem mad_i_t {R C : Nat} {g0 h0 n cp cp' : Nat} {xs ys : List D5} {w : World} (hA : Rd w (some ⟨g0, 0, none⟩) xs) (hB : Rd w (some ⟨h0, 0, none⟩) ys) (hn : xs.length = n) (hm : ys.length = n) (hok : okM (R : Int) (C : Int) n xs = true) (hok2 : okM (R : Int) (C : Int) n ys = true) (hc1 : n ≤ cp) (hc2 : cp ≤ 1048576) (hc3 : n ≤ cp') (hc4 : cp' ≤ 1048576) :
    Calls Try.prog 36 #[mv (R : Int) (C : Int) (some ⟨g0, 0, none⟩) n cp, mv (R : Int) (C : Int) (some ⟨h0, 0, none⟩) n cp'] w fun ee w' => IR w w' ee (R : Int) (C : Int) n (tab n (addF xs ys)) (anyB n (addG xs ys)) := by
  obtain ⟨hnn, h1, h2, h3, h4, h5⟩ := okM_nat2 hok
  have n1 : 0 < n := by rw [hnn]; exact Nat.mul_pos (by omega) (by omega)
  have hz2 := size5
  have HNN := hid hnn
  clear hnn
  have HA := hid hA
  have HB := hid hB
  have HN := hid hn
  have HM := hid hm
  have HO := hid hok
  have HP := hid hok2
  have h0A : g0 < w.heap.size := by
    obtain ⟨x, hx⟩ : ∃ x, xs[0]? = some x := ⟨_, List.getElem?_eq_getElem (by rw [hn]; exact n1)⟩
    exact (hA.cx hx).lt
  have h0B : h0 < w.heap.size := by
    obtain ⟨x, hx⟩ : ∃ x, ys[0]? = some x := ⟨_, List.getElem?_eq_getElem (by rw [hm]; exact n1)⟩
    exact (hB.cx hx).lt
  have HS5 := hid hz2
  clear hA hB hn hm hok hok2 hz2
  go_enter Try.func36, Try.ntmps36
  go_wp2_with (fail)
  refine (vm_i_t (xs := xs) HO.out ?_ HN.out).mono ?_
  · exact HA.out.mono (by (repeat' (first | (with_reducible exact Below.refl _ _) | (with_reducible assumption) | (with_reducible refine Below.alloc ?_ ?_ _) | (with_reducible refine Below.drew ?_) | (with_reducible refine below_drewN ?_ _) | (with_reducible refine Below.setCell ?_ ?_ _) | (with_reducible refine chain ?_ (by assumption) ?_) | omega | (simp; done) | (simp; omega))))
  rintro ee w1 ⟨rfl, hb1⟩
  obtain ⟨hc1, hf1, _⟩ := bcell hb1; have hz1 := hb1.size; (try simp at hz1); (try have hx10 : w.heap.size < w1.heap.size := (by omega)); (try have hx11 : w.heap.size + 1 < w1.heap.size := (by omega)); (try have hx12 : w.heap.size + 1 + 1 < w1.heap.size := (by omega)); (try have hx13 : w.heap.size + 1 + 1 + 1 < w1.heap.size := (by omega))
  have Xz1 : Hid (Bx w1 (w.heap.size + 1 + 1) 26 #[.int .i64 0, .int .i64 0, .slice none 0 0]) := by show Bx _ _ _ _; (repeat' (first | (with_reducible assumption) | (refine Bx.new (by first | (with_reducible rfl) | (simp; done))) | (with_reducible refine Bx.alloc ?_ _) | (with_reducible refine Bx.drew ?_) | (with_reducible refine Bx.drewN ?_ _) | (with_reducible refine Bx.mono ?_ (by assumption)) | (with_reducible refine Bx.badly ?_ (by assumption) (by omega)) | (with_reducible refine Bx.far ?_ (by (try simp only [World.size_alloc, World.size_drew]); omega)) | (with_reducible refine Bx.set ?_ rfl) | (with_reducible refine Bx.grown ?_ (by assumption) (by assumption))))
  have Xa1 : Hid (Bx w1 (w.heap.size) 26 #[.int .i64 (R : Int), .int .i64 (C : Int), .slice (some ⟨g0, 0, none⟩) n cp]) := by show Bx _ _ _ _; (repeat' (first | (with_reducible assumption) | (refine Bx.new (by first | (with_reducible rfl) | (simp; done))) | (with_reducible refine Bx.alloc ?_ _) | (with_reducible refine Bx.drew ?_) | (with_reducible refine Bx.drewN ?_ _) | (with_reducible refine Bx.mono ?_ (by assumption)) | (with_reducible refine Bx.badly ?_ (by assumption) (by omega)) | (with_reducible refine Bx.far ?_ (by (try simp only [World.size_alloc, World.size_drew]); omega)) | (with_reducible refine Bx.set ?_ rfl) | (with_reducible refine Bx.grown ?_ (by assumption) (by assumption))))
  have Xb1 : Hid (Bx w1 (w.heap.size + 1) 26 #[.int .i64 (R : Int), .int .i64 (C : Int), .slice (some ⟨h0, 0, none⟩) n cp']) := by show Bx _ _ _ _; (repeat' (first | (with_reducible assumption) | (refine Bx.new (by first | (with_reducible rfl) | (simp; done))) | (with_reducible refine Bx.alloc ?_ _) | (with_reducible refine Bx.drew ?_) | (with_reducible refine Bx.drewN ?_ _) | (with_reducible refine Bx.mono ?_ (by assumption)) | (with_reducible refine Bx.badly ?_ (by assumption) (by omega)) | (with_reducible refine Bx.far ?_ (by (try simp only [World.size_alloc, World.size_drew]); omega)) | (with_reducible refine Bx.set ?_ rfl) | (with_reducible refine Bx.grown ?_ (by assumption) (by assumption))))
  have hw1 : Below w.heap.size w w1 := by (repeat' (first | (with_reducible exact Below.refl _ _) | (with_reducible assumption) | (with_reducible refine Below.alloc ?_ ?_ _) | (with_reducible refine Below.drew ?_) | (with_reducible refine below_drewN ?_ _) | (with_reducible refine Below.setCell ?_ ?_ _) | (with_reducible refine chain ?_ (by assumption) ?_) | omega | (simp; done) | (simp; omega)))
  go_wp2_with (fail)
  refine (vm_i_t (xs := ys) HP.out ?_ HM.out).mono ?_
  · exact HB.out.mono (by (repeat' (first | (with_reducible exact Below.refl _ _) | (with_reducible assumption) | (with_reducible refine Below.alloc ?_ ?_ _) | (with_reducible refine Below.drew ?_) | (with_reducible refine below_drewN ?_ _) | (with_reducible refine Below.setCell ?_ ?_ _) | (with_reducible refine chain ?_ (by assumption) ?_) | omega | (simp; done) | (simp; omega))))
  rintro ee w2 ⟨rfl, hb2⟩
  obtain ⟨hc2, hf2, _⟩ := bcell hb2; have hz2 := hb2.size; (try simp at hz2); (try have hx20 : w.heap.size < w2.heap.size := (by omega)); (try have hx21 : w.heap.size + 1 < w2.heap.size := (by omega)); (try have hx22 : w.heap.size + 1 + 1 < w2.heap.size := (by omega)); (try have hx23 : w.heap.size + 1 + 1 + 1 < w2.heap.size := (by omega))
  have hw2 : Below w.heap.size w w2 := by (repeat' (first | (with_reducible exact Below.refl _ _) | (with_reducible assumption) | (with_reducible refine Below.alloc ?_ ?_ _) | (with_reducible refine Below.drew ?_) | (with_reducible refine below_drewN ?_ _) | (with_reducible refine Below.setCell ?_ ?_ _) | (with_reducible refine chain ?_ (by assumption) ?_) | omega | (simp; done) | (simp; omega)))
  have Xz2 := hid (Xz1.out.mono hb2)
  have Xa2 := hid (Xa1.out.mono hb2)
  have Xb2 := hid (Xb1.out.mono hb2)
  go_wp2_with (fail)
  refine (zm (r := R) (c := C) (n := n) (by rw [HNN.out]; simp) h5).mono ?_
  rintro ee w3 ⟨gz, rfl, hBz, hgz, hb3⟩
  have hz3 := hb3.size
  have hB3 : Below w.heap.size w w3 := chain hw2 hb3 hw2.size
  have hB3z := hB3.size
  have lz := hBz.lt
  obtain ⟨W, hW⟩ : ∃ W : World, W = w3.alloc (.cells #[.int .i64 (R : Int), .int .i64 (C : Int), .slice (some ⟨gz, 0, none⟩) n n] 26) := ⟨_, rfl⟩
  have hbW : Below w3.heap.size w3 W := by rw [hW]; exact (Below.refl _ _).alloc (Nat.le_refl _) _
  have XW : Hid (Bx W w3.heap.size 26 #[.int .i64 (R : Int), .int .i64 (C : Int), .slice (some ⟨gz, 0, none⟩) n n]) := by show Bx _ _ _ _; rw [hW]; exact Bx.new rfl
  have hzW : W.heap.size = w3.heap.size + 1 := by rw [hW]; simp
  have hzW1 : w3.heap.size < W.heap.size := by omega
  have HGW : Hid (Bk W gz 37 (List.replicate n z5)) := by show Bk _ _ _ _; rw [hW]; exact hBz.alloc _
  have hBW : Below w.heap.size w W := chain hB3 hbW hB3.size
  have XzW := hid ((Xz2.out.mono hb3).mono hbW)
  have XaW := hid ((Xa2.out.mono hb3).mono hbW)
  have XbW := hid ((Xb2.out.mono hb3).mono hbW)
  have ow2 := XW.out.c 2 rfl
  have aw2 := XaW.out.c 2 rfl
  have bw2 := XbW.out.c 2 rfl
  have HW := hid hW
  clear hW hzW hBz Xz1 Xa1 Xb1 Xz2 Xa2 Xb2
  go_upto_region 4 with (fail)
  rw [← HW.out]
  go_wp2_with (refine wpList_copy5 rfl (.tmp 36) (.tmp 38) 24 24 rfl 37 Try.underlying24 HS5.out gz 0 0 n n g0 0 cp rfl rfl rfl (List.replicate n z5) xs 37 HGW.out (HA.out.mono hBW) HN.out (by simp) gz W (Below.refl _ _) (Nat.le_refl _) ?_; intro w5 hK5 hb5 hk5 hz5; have co2 := (World.cell?_of_block (a := ⟨w3.heap.size, 2, none⟩) (hk5 w3.heap.size (by omega))).trans ow2; have cb2 := (World.cell?_of_block (a := ⟨w.heap.size + 1, 2, none⟩) (hk5 (w.heap.size + 1) (by omega))).trans bw2)
  have Xz5 := hid (show Bx _ _ _ _ from (hk5 _ (by omega)).trans XzW.out)
  have Xb5 := hid (show Bx _ _ _ _ from (hk5 _ (by omega)).trans XbW.out)
  have Xo5 := hid (show Bx _ _ _ _ from (hk5 _ (by omega)).trans XW.out)
  have hg5 : W.grownBy w5 (some gz) := ⟨hb5.os, hb5.tape, hb5.output, hb5.size, fun k _ hk => hk5 k (fun e => hk (by rw [e]))⟩
  have hB5 : Below w.heap.size w w5 := Below.grown hBW hg5 hBW.size (fun q e => by simp only [Option.some.injEq] at e; omega)
  have e5 : (List.replicate n z5).take 0 ++ (xs ++ (List.replicate n z5).drop (0 + n)) = tab n (fun q => xs.getD q z5) := by
    rw [List.take_zero, List.nil_append, List.drop_of_length_le (by simp), List.append_nil]
    conv => lhs; rw [list_tab xs, HN.out]
  rw [e5] at hK5
  have HK5 := hid hK5
  have HR5 : Hid (Rd w5 (some ⟨h0, 0, none⟩) ys) := HB.out.mono hB5
  clear hK5 e5 hk5 hb5 hg5 XaW XzW XbW XW HGW HW
  refine (arow0 (f := fun q => xs.getD q z5) HK5.out HR5.out HM.out (Nat.le_refl _) h5 (Nat.le_refl _) (by omega) hc3 hc4 ?_ ?_ (okM_iff.1 HP.out).2.2.2).mono ?_
  · intro a ha
    simp only [Option.some.injEq] at ha
    subst ha
    show h0 ≠ gz
    omega
  · intro i hi
    exact all_get (okM_iff.1 HO.out).2.2.2 (get_of (by rw [HN.out]; exact hi))
  rintro ee w6 ⟨hAR1, hAR2, hg6⟩
  have hz6 := hg6.size
  have hB6 : Below w.heap.size w w6 := Below.grown hB5 hg6 hB5.size (fun q e => by simp only [Option.some.injEq] at e; omega)
  have eG : anyB n (addH (fun q => xs.getD q z5) ys 0) = anyB n (addG xs ys) := anyB_congr (fun q _ => by unfold addH addG; rw [Nat.zero_add])
  have eF : tab n (addP (fun q => xs.getD q z5) ys 0 n) = tab n (addF xs ys) := tab_congr (fun q hq => by unfold addP addF; rw [if_pos (by omega), Nat.sub_zero])
  rw [eG] at hAR1 hAR2
  rw [eF] at hAR2
  have Xz6 := Xz5.out.grown hg6 (by intro e; simp only [Option.some.injEq] at e; omega)
  have Xo6 := Xo5.out.grown hg6 (by intro e; simp only [Option.some.injEq] at e; omega)
  have do0 := Xo6.c 0 rfl
  have do1 := Xo6.c 1 rfl
  have do2 := Xo6.c 2 rfl
  have cz0 := Xz6.c 0 rfl
  have cz1 := Xz6.c 1 rfl
  have cz2 := Xz6.c 2 rfl
  have fz := Xz6.f
  have lo6 := Xo6.lt
  have lz6 := Xz6.lt
  have H6 := hid hB6
  have HG6 := hid hg6
  clear Xz6 Xo6 Xz5 Xb5 Xo5 HK5 HR5 hB6 hg6 eG eF co2 cb2 ow2 aw2 bw2
  cases hany : anyB n (addG xs ys)
  · rw [hany] at hAR2
    obtain ⟨rfl, hK⟩ := hAR2 rfl
    have HK := hid hK
    have HY := hid hany
    clear hK hAR1 hAR2 hany
    go_wp2_with (fail)
    refine bodyPost_ret (v := mt (R : Int) (C : Int) (some ⟨gz, 0, none⟩) n n true) (by first | (simp [results, Try.results36, go_sem, *]; done) | (simp (disch := (first | omega | (simp; done) | (simp; omega))) [results, Try.results36, go_sem, *]; done) | (simp only [results, Try.results36]; go_simp; done)) rfl ⟨fun h => (by rw [HY.out] at h; cases h), fun _ => ⟨gz, rfl, ?_, by omega⟩, ?_⟩
    · (repeat' (first | exact HK.out | refine Bk.far ?_ (by show gz ≠ w.heap.size + 1 + 1; omega) _))
    · have hB6 := H6.out
      have hBq := hB6.size
      (repeat' (first | (with_reducible exact Below.refl _ _) | (with_reducible assumption) | (with_reducible refine Below.alloc ?_ ?_ _) | (with_reducible refine Below.drew ?_) | (with_reducible refine below_drewN ?_ _) | (with_reducible refine Below.setCell ?_ ?_ _) | (with_reducible refine chain ?_ (by assumption) ?_) | omega | (simp; done) | (simp; omega)))
  · rw [hany] at hAR1
    have he := hAR1 rfl
    subst he
    have HY := hid hany
    clear hAR1 hAR2 hany
    go_wp2_with (fail)
    refine bodyPost_ret (v := mt 0 0 none 0 0 false) (by first | (simp [results, Try.results36, go_sem, *]; done) | (simp (disch := (first | omega | (simp; done) | (simp; omega))) [results, Try.results36, go_sem, *]; done) | (simp only [results, Try.results36]; go_simp; done)) rfl ⟨fun _ => rfl, fun h => (by rw [HY.out] at h; cases h), ?_⟩
    have hB6 := H6.out
    have hBq := hB6.size
    (repeat' (first | (with_reducible exact Below.refl _ _) | (with_reducible assumption) | (with_reducible refine Below.alloc ?_ ?_ _) | (with_reducible refine Below.drew ?_) | (with_reducible refine below_drewN ?_ _) | (with_reducible refine Below.setCell ?_ ?_ _) | (with_reducible refine chain ?_ (by assumption) ?_) | omega | (simp; done) | (simp; omega)))

end Go.Proofs.Ytdgcanlbdneelaa
