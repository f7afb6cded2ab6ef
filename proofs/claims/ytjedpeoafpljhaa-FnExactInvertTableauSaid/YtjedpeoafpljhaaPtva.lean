/- IsValidTableau at all arguments. -/
import Derived.Test.YtjedpeoafpljhaaPtvi
import Derived.Test.YtjedpeoafpljhaaPtvs
namespace Go.Proofs.Ytjedpeoafpljhaa.C4
open Go.RowKit
set_option linter.unusedVariables false
set_option linter.unusedSimpArgs false
attribute [local irreducible] World.setCell

theorem TOk_m {n : Nat} {xs zs : List PauliV} (q1 : 1 ≤ n) (q5 : n ≤ 5) (hn : xs.length = n) (hm : zs.length = n) : TOk (n : Int) n n xs zs ↔ okU n (xs ++ zs) (n + n) := by
  have hl : (xs ++ zs).length = n + n := by rw [List.length_append, hn, hm]
  unfold TOk
  rw [hl, Int.toNat_natCast]
  exact ⟨fun h => h.2.2.2, fun h => ⟨inB_t (by omega) (by omega), rfl, rfl, h⟩⟩
theorem TOk_nat {a0 : Int} {n1 n2 : Nat} {xs zs : List PauliV} (h : TOk a0 n1 n2 xs zs) : ∃ n : Nat, a0 = (n : Int) ∧ n1 = n ∧ n2 = n ∧ 1 ≤ n ∧ n ≤ 5 := by
  obtain ⟨h1, h2, h3, -⟩ := h
  rw [inB_iff] at h1
  exact ⟨n1, h2.symm, rfl, by omega, by omega, by omega⟩
set_option maxRecDepth 100000 in
set_option maxHeartbeats 4000000 in
theorem ivt_i {a0 : Int} {g h n1 n2 c1 c2 : Nat} {xs zs : List PauliV} {t : Bool} {w : World} (ht : t = true ↔ TOk a0 n1 n2 xs zs) (hA : Rd pauliE w (some ⟨g, 0, none⟩) xs) (hB : Rd pauliE w (some ⟨h, 0, none⟩) zs) (hn : xs.length = n1) (hm : zs.length = n2) (hb1 : n1 ≤ maxLen) (hb2 : n2 ≤ maxLen) :
    Calls Try.prog 100 #[tableauV a0 (some ⟨g, 0, none⟩) n1 c1 (some ⟨h, 0, none⟩) n2 c2] w fun ee w' => ee = .returned (.bool t) ∧ Below w.heap.size w w' := by
  unfold maxLen at hb1 hb2
  cases hq : inB a0 1 5
  · have HF : Hid (false = t) := tF ht (fun h => by rw [h.1] at hq; cases hq)
    have HQ := lay hq
    clear hq ht hA hB hn hm
    go_enter Try.func100, Try.ntmps100
    go_wp2_with ((go_at_call 131; ((with_reducible refine (iqc HQ.out _).mono ?_); rintro ee w1 ⟨rfl, rfl⟩)))
    go_ret
    refine ⟨ret_bool HF.out, ?_⟩
    (repeat' (first | (with_reducible exact Below.refl _ _) | (with_reducible assumption) | (with_reducible refine Below.alloc ?_ ?_ _) | (with_reducible refine Below.drew ?_) | (with_reducible refine bdN ?_ _) | (with_reducible refine Below.setCell ?_ ?_ _) | (with_reducible refine chn ?_ (by assumption) ?_) | omega | (simp; done) | (simp; omega)))
  by_cases h1 : (n1 : Int) = a0
  · by_cases h2 : (n2 : Int) = a0
    · obtain ⟨q1, q5⟩ := inB_iff.1 hq
      obtain rfl : n1 = n2 := by omega
      subst h1
      exact ivt_m (by omega) (by omega) (ht.trans (TOk_m (by omega) (by omega) hn hm)) hA hB hn hm
    · have HF : Hid (false = t) := tF ht (fun h => h2 h.2.2.1)
      have HQ := lay hq
      have h3 : ((n2 : Int) != a0) = true := by simpa using h2
      have h4 : ((n1 : Int) != a0) = false := by simpa using h1
      subst h1
      clear hq ht hA hB hn hm
      go_enter Try.func100, Try.ntmps100
      go_wp2_with ((go_at_call 131; ((with_reducible refine (iqc HQ.out _).mono ?_); rintro ee w1 ⟨rfl, rfl⟩)))
      go_ret
      refine ⟨ret_bool HF.out, ?_⟩
      (repeat' (first | (with_reducible exact Below.refl _ _) | (with_reducible assumption) | (with_reducible refine Below.alloc ?_ ?_ _) | (with_reducible refine Below.drew ?_) | (with_reducible refine bdN ?_ _) | (with_reducible refine Below.setCell ?_ ?_ _) | (with_reducible refine chn ?_ (by assumption) ?_) | omega | (simp; done) | (simp; omega)))
  · have HF : Hid (false = t) := tF ht (fun h => h1 h.2.1)
    have HQ := lay hq
    have h3 : ((n1 : Int) != a0) = true := by simpa using h1
    clear hq ht hA hB hn hm
    go_enter Try.func100, Try.ntmps100
    go_wp2_with ((go_at_call 131; ((with_reducible refine (iqc HQ.out _).mono ?_); rintro ee w1 ⟨rfl, rfl⟩)))
    go_ret
    refine ⟨ret_bool HF.out, ?_⟩
    (repeat' (first | (with_reducible exact Below.refl _ _) | (with_reducible assumption) | (with_reducible refine Below.alloc ?_ ?_ _) | (with_reducible refine Below.drew ?_) | (with_reducible refine bdN ?_ _) | (with_reducible refine Below.setCell ?_ ?_ _) | (with_reducible refine chn ?_ (by assumption) ?_) | omega | (simp; done) | (simp; omega)))

set_option maxRecDepth 100000 in
set_option maxHeartbeats 4000000 in
theorem gvs {a0 : Int} {g h n1 n2 c1 c2 : Nat} {xs zs : List PauliV} {t : Bool} {w : World} (ht : t = true ↔ TOk a0 n1 n2 xs zs) (hA : Rd pauliE w (some ⟨g, 0, none⟩) xs) (hB : Rd pauliE w (some ⟨h, 0, none⟩) zs) (hn : xs.length = n1) (hm : zs.length = n2) (hb1 : n1 ≤ maxLen) (hb2 : n2 ≤ maxLen) :
    Calls Try.prog 97 #[tableauV a0 (some ⟨g, 0, none⟩) n1 c1 (some ⟨h, 0, none⟩) n2 c2] w fun ee w' => ee = .returned (.bool t) ∧ Below w.heap.size w w' := by
  unfold maxLen at hb1 hb2
  cases hq : inB a0 1 5
  · have HF : Hid (false = t) := tF ht (fun h => by rw [h.1] at hq; cases hq)
    have HQ := lay hq
    clear hq ht hA hB hn hm
    go_enter Try.func97, Try.ntmps97
    go_wp2_with ((go_at_call 128; ((with_reducible refine (lin HQ.out _).mono ?_); rintro ee w1 ⟨rfl, rfl⟩)))
    go_ret
    refine ⟨ret_bool HF.out, ?_⟩
    (repeat' (first | (with_reducible exact Below.refl _ _) | (with_reducible assumption) | (with_reducible refine Below.alloc ?_ ?_ _) | (with_reducible refine Below.drew ?_) | (with_reducible refine bdN ?_ _) | (with_reducible refine Below.setCell ?_ ?_ _) | (with_reducible refine chn ?_ (by assumption) ?_) | omega | (simp; done) | (simp; omega)))
  by_cases h1 : (n1 : Int) = a0
  · by_cases h2 : (n2 : Int) = a0
    · obtain ⟨q1, q5⟩ := inB_iff.1 hq
      obtain rfl : n1 = n2 := by omega
      subst h1
      exact gvs_m (by omega) (by omega) (ht.trans (TOk_m (by omega) (by omega) hn hm)) hA hB hn hm
    · have HF : Hid (false = t) := tF ht (fun h => h2 h.2.2.1)
      have HQ := lay hq
      have h3 : ((n2 : Int) != a0) = true := by simpa using h2
      have h4 : ((n1 : Int) != a0) = false := by simpa using h1
      subst h1
      clear hq ht hA hB hn hm
      go_enter Try.func97, Try.ntmps97
      go_wp2_with ((go_at_call 128; ((with_reducible refine (lin HQ.out _).mono ?_); rintro ee w1 ⟨rfl, rfl⟩)))
      go_ret
      refine ⟨ret_bool HF.out, ?_⟩
      (repeat' (first | (with_reducible exact Below.refl _ _) | (with_reducible assumption) | (with_reducible refine Below.alloc ?_ ?_ _) | (with_reducible refine Below.drew ?_) | (with_reducible refine bdN ?_ _) | (with_reducible refine Below.setCell ?_ ?_ _) | (with_reducible refine chn ?_ (by assumption) ?_) | omega | (simp; done) | (simp; omega)))
  · have HF : Hid (false = t) := tF ht (fun h => h1 h.2.1)
    have HQ := lay hq
    have h3 : ((n1 : Int) != a0) = true := by simpa using h1
    clear hq ht hA hB hn hm
    go_enter Try.func97, Try.ntmps97
    go_wp2_with ((go_at_call 128; ((with_reducible refine (lin HQ.out _).mono ?_); rintro ee w1 ⟨rfl, rfl⟩)))
    go_ret
    refine ⟨ret_bool HF.out, ?_⟩
    (repeat' (first | (with_reducible exact Below.refl _ _) | (with_reducible assumption) | (with_reducible refine Below.alloc ?_ ?_ _) | (with_reducible refine Below.drew ?_) | (with_reducible refine bdN ?_ _) | (with_reducible refine Below.setCell ?_ ?_ _) | (with_reducible refine chn ?_ (by assumption) ?_) | omega | (simp; done) | (simp; omega)))

theorem boolOf {P : Prop} : ∃ t : Bool, t = true ↔ P := by
  by_cases h : P
  · exact ⟨true, fun _ => h, fun _ => rfl⟩
  · exact ⟨false, (fun k => by cases k), fun k => absurd k h⟩
end Go.Proofs.Ytjedpeoafpljhaa.C4
