/- The search for a power: the model. -/
import Derived.Test.YtnjckeadcbfogaaPh2
namespace Go.Proofs.Ytnjckeadcbfogaa
open Go.RowKit RM
set_option linter.unusedVariables false
set_option linter.unusedSimpArgs false
attribute [local irreducible] World.setCell

theorem lt {r c r' c' : Int} {A B : Option Addr} {n m cp cp' k : Nat} {xs ys : List D5} {w : World} (hA : Rd w A xs) (hB : Rd w B ys) (hn : xs.length = n) (hm : ys.length = m) (hb : n ≤ 1048576) (hd : r = r' → c = c' → n = m) (hk : k < 8) (hy : allB ys = true) :
    Calls Try.prog 157 #[mv r c A n cp, mv r' c' B m cp', .int .i64 (k : Int)] w fun ee w' => EF w w' ee (badK r c r' c' n xs ys k) := by
  by_cases hr : r = r'
  · by_cases hc : c = c'
    · subst hr hc
      obtain rfl := hd rfl rfl
      refine (lt_l hA hB hn hm hb hk hy).mono fun ee w' h => ?_
      unfold badK
      rw [show (r != r) = false by simp, show (c != c) = false by simp, Bool.false_or, Bool.false_or]
      exact h
    · refine (lt_c hr hc).mono fun ee w' h => ⟨fun _ => h.1, fun h2 => ?_, h.2⟩
      unfold badK at h2
      rw [show (c != c') = true by simpa using hc] at h2
      simp at h2
  · refine (lt_r hr).mono fun ee w' h => ⟨fun _ => h.1, fun h2 => ?_, h.2⟩
    unfold badK at h2
    rw [show (r != r') = true by simpa using hr] at h2
    simp at h2

set_option maxRecDepth 100000 in
set_option maxHeartbeats 8000000 in
theorem lp {r c r' c' : Int} {A B : Option Addr} {n m cp cp' : Nat} {xs ys : List D5} {w : World} (hA : Rd w A xs) (hB : Rd w B ys) (hn : xs.length = n) (hm : ys.length = m) (hb : n ≤ 1048576) (hd : r = r' → c = c' → n = m) (hy : allB ys = true) :
    Calls Try.prog 102 #[mv r c A n cp, mv r' c' B m cp'] w fun ee w' => PH mk2 (badK r c r' c' n xs ys) w w' ee := by
  have HA := hid hA
  have HB := hid hB
  have HN := hid hn
  have HM := hid hm
  have HD := hid hd
  have HY := hid hy
  clear hA hB hn hm hd hy
  go_enter Try.func102, Try.ntmps102
  go_wp2_with (fail)
  go_loopg [6] 8 (fun q s1 wr => ∃ k : Nat, k + q = 8 ∧ s1 = .int .i64 (k : Int) ∧ Hid (Bx wr (w.heap.size) 28 #[.int .i64 r, .int .i64 c, .slice A n cp]) ∧ Hid (Bx wr (w.heap.size + 1) 28 #[.int .i64 r', .int .i64 c', .slice B m cp']) ∧ Hid (∀ i, i < k → badK r c r' c' n xs ys i = true) ∧ w.heap.size + 1 + 1 ≤ wr.heap.size ∧ Below w.heap.size w wr)
  case atStart => exact ⟨0, by omega, rfl, (by show Bx _ _ _ _; (repeat' (first | (with_reducible assumption) | (refine Bx.new (by first | (with_reducible rfl) | (simp; done))) | (with_reducible refine Bx.alloc ?_ _) | (with_reducible refine Bx.drew ?_) | (with_reducible refine Bx.drewN ?_ _) | (with_reducible refine Bx.mono ?_ (by assumption)) | (with_reducible refine Bx.badly ?_ (by assumption) (by omega)) | (with_reducible refine Bx.far ?_ (by (try simp only [World.size_alloc, World.size_drew]); omega)) | (with_reducible refine Bx.set ?_ rfl) | (with_reducible refine Bx.grown ?_ (by assumption) (by assumption))))), (by show Bx _ _ _ _; (repeat' (first | (with_reducible assumption) | (refine Bx.new (by first | (with_reducible rfl) | (simp; done))) | (with_reducible refine Bx.alloc ?_ _) | (with_reducible refine Bx.drew ?_) | (with_reducible refine Bx.drewN ?_ _) | (with_reducible refine Bx.mono ?_ (by assumption)) | (with_reducible refine Bx.badly ?_ (by assumption) (by omega)) | (with_reducible refine Bx.far ?_ (by (try simp only [World.size_alloc, World.size_drew]); omega)) | (with_reducible refine Bx.set ?_ rfl) | (with_reducible refine Bx.grown ?_ (by assumption) (by assumption))))), fun i hi => absurd hi (Nat.not_lt_zero i), by simp, by (repeat' (first | (with_reducible exact Below.refl _ _) | (with_reducible assumption) | (with_reducible refine Below.alloc ?_ ?_ _) | (with_reducible refine Below.drew ?_) | (with_reducible refine below_drewN ?_ _) | (with_reducible refine Below.setCell ?_ ?_ _) | (with_reducible refine chain ?_ (by assumption) ?_) | omega | (simp; done) | (simp; omega)))⟩
  case round =>
    obtain ⟨k, hk, rfl, Xa, Xb, HJ, hsz, hB⟩ := hrel
    have ca0 := Xa.out.c 0 rfl
    have ca1 := Xa.out.c 1 rfl
    have ca2 := Xa.out.c 2 rfl
    have cb0 := Xb.out.c 0 rfl
    have cb1 := Xb.out.c 1 rfl
    have cb2 := Xb.out.c 2 rfl
    have la := Xa.out.lt
    have lb := Xb.out.lt
    have hBq := hB.size
    cases gk with
    | zero =>
      obtain rfl : k = 8 := by omega
      go_wp2_with (fail)
      refine bodyPost_ret (v := .tuple #[.int .i64 0, .bool false]) (by first | (simp [results, Try.results102, go_sem, *]; done) | (simp (disch := (first | omega | (simp; done) | (simp; omega))) [results, Try.results102, go_sem, *]; done) | (simp only [results, Try.results102]; go_simp; done)) rfl (PH.none HJ.out rfl (by (repeat' (first | (with_reducible exact Below.refl _ _) | (with_reducible assumption) | (with_reducible refine Below.alloc ?_ ?_ _) | (with_reducible refine Below.drew ?_) | (with_reducible refine below_drewN ?_ _) | (with_reducible refine Below.setCell ?_ ?_ _) | (with_reducible refine chain ?_ (by assumption) ?_) | omega | (simp; done) | (simp; omega)))))
    | succ m9 =>
      have hk8 : k < 8 := by omega
      have k1 : (k : Int) < 8 := by omega
      cases hq : badK r c r' c' n xs ys k
      · have HQ := hid hq
        clear hq
        go_wp2_with (fail)
        refine (lt (k := k) (xs := xs) (ys := ys) (HA.out.mono hB) (HB.out.mono hB) HN.out HM.out hb HD.out hk8 HY.out).mono ?_
        rintro ee w9 ⟨h1, h2, hb9⟩
        obtain rfl := h2 HQ.out
        clear h1 h2
        have hz9 := hb9.size
        have hB9 : Below w.heap.size w w9 := chain hB hb9 hBq
        go_wp2_with (fail)
        refine bodyPost_ret (v := .tuple #[.int .i64 (k : Int), .bool true]) (by first | (simp [results, Try.results102, go_sem, *]; done) | (simp (disch := (first | omega | (simp; done) | (simp; omega))) [results, Try.results102, go_sem, *]; done) | (simp only [results, Try.results102]; go_simp; done)) rfl (PH.found hk8 HJ.out HQ.out rfl (by (repeat' (first | (with_reducible exact Below.refl _ _) | (with_reducible assumption) | (with_reducible refine Below.alloc ?_ ?_ _) | (with_reducible refine Below.drew ?_) | (with_reducible refine below_drewN ?_ _) | (with_reducible refine Below.setCell ?_ ?_ _) | (with_reducible refine chain ?_ (by assumption) ?_) | omega | (simp; done) | (simp; omega)))))
      · have HQ := hid hq
        clear hq
        go_wp2_with (fail)
        refine (lt (k := k) (xs := xs) (ys := ys) (HA.out.mono hB) (HB.out.mono hB) HN.out HM.out hb HD.out hk8 HY.out).mono ?_
        rintro ee w9 ⟨h1, h2, hb9⟩
        obtain rfl := h1 HQ.out
        clear h1 h2
        have hz9 := hb9.size
        have hB9 : Below w.heap.size w w9 := chain hB hb9 hBq
        go_wp2_with (fail)
        go_roundg m9
        case measure => omega
        case rel =>
          refine ⟨k + 1, by omega, by go_num, hid (Xa.out.mono hb9), hid (Xb.out.mono hb9), ?_, by omega, hB9⟩
          show ∀ i, i < k + 1 → _
          intro i hi
          by_cases e : i = k
          · subst e; exact HQ.out
          · exact HJ.out i (by omega)

end Go.Proofs.Ytnjckeadcbfogaa
