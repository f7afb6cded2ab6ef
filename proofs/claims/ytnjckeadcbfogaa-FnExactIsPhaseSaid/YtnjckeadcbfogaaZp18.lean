/- Lh, Vm2, Ro, Col -/
import Derived.Test.YtnjckeadcbfogaaZp17
import Derived.Test.YtnjckeadcbfogaaZp12
import Derived.Deep.RegionWith
import Derived.Deep.LoopGhost
import Derived.Test.YtnjckeadcbfogaaZp8
import Derived.Test.YtnjckeadcbfogaaZp15
import Derived.BigQuiet
import Derived.Deep.QuietTactic
import Derived.IntWalk
import Derived.Deep.RegionLaw
namespace Go.Proofs.Ytnjckeadcbfogaa
open Go.RowKit RM
set_option linter.unusedVariables false
set_option linter.unusedSimpArgs false
attribute [local irreducible] World.setCell

open GM
theorem cb {α : Type} {a b : Nat} {x y : α} : (bif a.beq b then x else y) = if a = b then x else y := by
  cases h : a.beq b
  · rw [if_neg (fun e => by subst e; simp at h)]; rfl
  · rw [if_pos (Nat.eq_of_beq_eq_true h)]; rfl
theorem cc1 : cellC 1 = omP 0 := (cellC_at (m := 0) (e := 0) (by decide)).trans cellD_0
theorem cc2 : cellC 2 = omP 1 := (cellC_at (m := 1) (e := 0) (by decide)).trans cellD_0
theorem cc5 : cellC 5 = omP 4 := (cellC_at (m := 4) (e := 0) (by decide)).trans cellD_0
theorem cc0 : cellC 0 = z5 := rfl
theorem gS_12 {n A B r c : Nat} : gS n 12 A B r c = if r = c then 2 else 0 := cb
theorem gS_9 {n A B r c : Nat} : gS n 9 A B r c = if r = (if bitS n c A = 1 then c ^^^ msk n B else c) then 1 else 0 := by
  show (bif r.beq (bif (bitS n c A).beq 1 then c ^^^ msk n B else c) then 1 else 0) = _
  rw [cb, cb]
theorem gS_10 {n A B r c : Nat} : gS n 10 A B r c = if r = c then (if bitS n c A = 1 ∧ bitS n c B = 1 then 5 else 1) else 0 := by
  show (bif r.beq c then (bif (bitS n c A).beq 1 && (bitS n c B).beq 1 then 5 else 1) else 0) = _
  rw [cb]
  by_cases h1 : bitS n c A = 1
  · by_cases h2 : bitS n c B = 1
    · rw [h1, h2]; rfl
    · have e : (bitS n c B).beq 1 = false := by cases h : (bitS n c B).beq 1; rfl; exact absurd (Nat.eq_of_beq_eq_true h) h2
      rw [e, Bool.and_false, if_neg (c := bitS n c A = 1 ∧ bitS n c B = 1) (fun h => h2 h.2)]; rfl
  · have e : (bitS n c A).beq 1 = false := by cases h : (bitS n c A).beq 1; rfl; exact absurd (Nat.eq_of_beq_eq_true h) h1
    rw [e, Bool.false_and, if_neg (c := bitS n c A = 1 ∧ bitS n c B = 1) (fun h => h1 h.1)]; rfl
theorem gS_11 {n A B r c : Nat} : gS n 11 A B r c = if r = (if bitS n c A = bitS n c B then c else c ^^^ msk n A ^^^ msk n B) then 1 else 0 := by
  show (bif r.beq (bif (bitS n c A).beq (bitS n c B) then c else c ^^^ msk n A ^^^ msk n B) then 1 else 0) = _
  rw [cb, cb]
theorem gS_1 {n kd A B r c : Nat} (h1 : 1 ≤ kd) (h8 : kd ≤ 8) : gS n kd A B r c = if (r ^^^ c) - ((r ^^^ c) &&& msk n A) = 0 then one kd (2 * bitS n r A + bitS n c A) else 0 := by
  have : kd = 1 ∨ kd = 2 ∨ kd = 3 ∨ kd = 4 ∨ kd = 5 ∨ kd = 6 ∨ kd = 7 ∨ kd = 8 := by omega
  rcases this with rfl | rfl | rfl | rfl | rfl | rfl | rfl | rfl <;> exact cb
theorem lcell {n kd A B r c : Nat} {w : World} (h : okG n kd A B) (hr : r < 2 ^ n) (hc : c < 2 ^ n) :
    Calls Try.prog 196 #[.int .i64 (n : Int), .agg #[.int .i64 (kd : Int), .int .i64 (A : Int), .int .i64 (B : Int)], .int .i64 (r : Int), .int .i64 (c : Int)] w fun ee w' => ee = .returned (cellC (gS n kd A B r c)).v ∧ Below w.heap.size w w' := by
  obtain ⟨h1, h5, h3⟩ := h
  rcases h3 with ⟨k1, k8, hA, rfl⟩ | ⟨k9, k11, hA, hB, hne⟩ | ⟨rfl, rfl, rfl⟩
  · rw [gS_1 k1 k8]
    by_cases hz : (r ^^^ c) - ((r ^^^ c) &&& msk n A) = 0
    · rw [if_pos hz]; exact lc1_0 k1 k8 h5 hr hc hA hz
    · rw [if_neg hz, cc0]; exact lc1_1 k1 k8 h5 hr hc hA hz
  · have : kd = 9 ∨ kd = 10 ∨ kd = 11 := by omega
    rcases this with rfl | rfl | rfl
    · rw [gS_9]
      rcases bitS_01 (n := n) (c := c) (q := A) with hb | hb
      · rw [if_neg (c := bitS n c A = 1) (by omega)]
        by_cases he : r = c
        · rw [if_pos he, cc1]; exact lc9_01 h5 hr hc hA hB hb he
        · rw [if_neg he, cc0]; exact lc9_00 h5 hr hc hA hB hb he
      · rw [if_pos (c := bitS n c A = 1) hb]
        by_cases he : r = c ^^^ msk n B
        · rw [if_pos he, cc1]; exact lc9_11 h5 hr hc hA hB hb he
        · rw [if_neg he, cc0]; exact lc9_10 h5 hr hc hA hB hb he
    · rw [gS_10]
      by_cases he : r = c
      · rw [if_pos he]
        rcases bitS_01 (n := n) (c := c) (q := A) with hb | hb
        · rw [if_neg (by omega), cc1]; exact lc10_01 h5 hr hc hA hB hb he
        · rcases bitS_01 (n := n) (c := c) (q := B) with hb2 | hb2
          · rw [if_neg (by omega), cc1]; exact lc10_101 h5 hr hc hA hB hb hb2 he
          · rw [if_pos ⟨hb, hb2⟩, cc5]; exact lc10_111 h5 hr hc hA hB hb hb2 he
      · rw [if_neg he, cc0]
        rcases bitS_01 (n := n) (c := c) (q := A) with hb | hb
        · exact lc10_00 h5 hr hc hA hB hb he
        · rcases bitS_01 (n := n) (c := c) (q := B) with hb2 | hb2
          · exact lc10_100 h5 hr hc hA hB hb hb2 he
          · exact lc10_110 h5 hr hc hA hB hb hb2 he
    · rw [gS_11]
      by_cases hbb : bitS n c A = bitS n c B
      · rw [if_pos (c := bitS n c A = bitS n c B) hbb]
        by_cases he : r = c
        · rw [if_pos he, cc1]; exact lc11_11 h5 hr hc hA hB hbb he
        · rw [if_neg he, cc0]; exact lc11_10 h5 hr hc hA hB hbb he
      · rw [if_neg (c := bitS n c A = bitS n c B) hbb]
        by_cases he : r = c ^^^ msk n A ^^^ msk n B
        · rw [if_pos he, cc1]; exact lc11_01 h5 hr hc hA hB hbb he
        · rw [if_neg he, cc0]; exact lc11_00 h5 hr hc hA hB hbb he
  · rw [gS_12]
    by_cases he : r = c
    · rw [if_pos he, cc2]; exact lc12_1 h5 hr hc he
    · rw [if_neg he, cc0]; exact lc12_0 h5 hr hc he
end Go.Proofs.Ytnjckeadcbfogaa
namespace Go.Proofs.Ytnjckeadcbfogaa
open Go.RowKit RM
set_option linter.unusedVariables false
set_option linter.unusedSimpArgs false
attribute [local irreducible] World.setCell

set_option maxRecDepth 100000 in
set_option maxHeartbeats 4000000 in
theorem vm_i_r {r c : Int} {A : Option Addr} {n cp : Nat} (hr : dimB r = false) (w : World) :
    Calls Try.prog 78 #[mv r c A n cp] w fun ee w' => ee = .returned (.bool false) ∧ Below w.heap.size w w' := by
  have HR := hid hr
  clear hr
  go_enter Try.func78, Try.ntmps78
  go_wp2_with ((go_at_call 144; ((with_reducible refine (dm_i_f HR.out _).mono ?_); rintro ee w1 ⟨rfl, hb1⟩; obtain ⟨hc1, hf1, _⟩ := bcell hb1; have hz1 := hb1.size; (try simp at hz1); (try have hx10 : w.heap.size < w1.heap.size := (by omega)); (try have hx11 : w.heap.size + 1 < w1.heap.size := (by omega)); (try have hx12 : w.heap.size + 1 + 1 < w1.heap.size := (by omega)); (try have hx13 : w.heap.size + 1 + 1 + 1 < w1.heap.size := (by omega)))))
  go_ret
  refine ⟨rfl, ?_⟩
  (repeat' (first | (with_reducible exact Below.refl _ _) | (with_reducible assumption) | (with_reducible refine Below.alloc ?_ ?_ _) | (with_reducible refine Below.drew ?_) | (with_reducible refine below_drewN ?_ _) | (with_reducible refine Below.setCell ?_ ?_ _) | (with_reducible refine chain ?_ (by assumption) ?_) | omega | (simp; done) | (simp; omega)))

set_option maxRecDepth 100000 in
set_option maxHeartbeats 4000000 in
theorem vm_i_c {r c : Int} {A : Option Addr} {n cp : Nat} (hr : dimB r = true) (hc : dimB c = false) (w : World) :
    Calls Try.prog 78 #[mv r c A n cp] w fun ee w' => ee = .returned (.bool false) ∧ Below w.heap.size w w' := by
  have HR := hid hr
  clear hr
  have HC := hid hc
  clear hc
  go_enter Try.func78, Try.ntmps78
  go_wp2_with (first | (go_at_call_of 144 (Value.int IntKind.i64 r); ((with_reducible refine (dm_i_t HR.out _).mono ?_); rintro ee w1 ⟨rfl, hb1⟩; obtain ⟨hc1, hf1, _⟩ := bcell hb1; have hz1 := hb1.size; (try simp at hz1); (try have hx10 : w.heap.size < w1.heap.size := (by omega)); (try have hx11 : w.heap.size + 1 < w1.heap.size := (by omega)); (try have hx12 : w.heap.size + 1 + 1 < w1.heap.size := (by omega)); (try have hx13 : w.heap.size + 1 + 1 + 1 < w1.heap.size := (by omega)))) | (go_at_call_of 144 (Value.int IntKind.i64 c); ((with_reducible refine (dm_i_f HC.out _).mono ?_); rintro ee w2 ⟨rfl, hb2⟩; obtain ⟨hc2, hf2, _⟩ := bcell hb2; have hz2 := hb2.size; (try simp at hz2); (try have hx20 : w.heap.size < w2.heap.size := (by omega)); (try have hx21 : w.heap.size + 1 < w2.heap.size := (by omega)); (try have hx22 : w.heap.size + 1 + 1 < w2.heap.size := (by omega)); (try have hx23 : w.heap.size + 1 + 1 + 1 < w2.heap.size := (by omega)))))
  go_ret
  refine ⟨rfl, ?_⟩
  (repeat' (first | (with_reducible exact Below.refl _ _) | (with_reducible assumption) | (with_reducible refine Below.alloc ?_ ?_ _) | (with_reducible refine Below.drew ?_) | (with_reducible refine below_drewN ?_ _) | (with_reducible refine Below.setCell ?_ ?_ _) | (with_reducible refine chain ?_ (by assumption) ?_) | omega | (simp; done) | (simp; omega)))

set_option maxRecDepth 100000 in
set_option maxHeartbeats 4000000 in
theorem vm_i_n {r c : Int} {A : Option Addr} {n cp : Nat} (hr : dimB r = true) (hc : dimB c = true) (hnn : (n : Int) ≠ r * c) (w : World) :
    Calls Try.prog 78 #[mv r c A n cp] w fun ee w' => ee = .returned (.bool false) ∧ Below w.heap.size w w' := by
  obtain ⟨r0, r1, c0, c1, p0, p1⟩ := prod_bd hr hc
  have hq : ((n : Int) != r * c) = true := by simp; exact hnn
  clear hnn
  have HR := hid hr
  clear hr
  have HC := hid hc
  clear hc
  go_enter Try.func78, Try.ntmps78
  go_wp2_with (first | (go_at_call_of 144 (Value.int IntKind.i64 r); ((with_reducible refine (dm_i_t HR.out _).mono ?_); rintro ee w1 ⟨rfl, hb1⟩; obtain ⟨hc1, hf1, _⟩ := bcell hb1; have hz1 := hb1.size; (try simp at hz1); (try have hx10 : w.heap.size < w1.heap.size := (by omega)); (try have hx11 : w.heap.size + 1 < w1.heap.size := (by omega)); (try have hx12 : w.heap.size + 1 + 1 < w1.heap.size := (by omega)); (try have hx13 : w.heap.size + 1 + 1 + 1 < w1.heap.size := (by omega)))) | (go_at_call_of 144 (Value.int IntKind.i64 c); ((with_reducible refine (dm_i_t HC.out _).mono ?_); rintro ee w2 ⟨rfl, hb2⟩; obtain ⟨hc2, hf2, _⟩ := bcell hb2; have hz2 := hb2.size; (try simp at hz2); (try have hx20 : w.heap.size < w2.heap.size := (by omega)); (try have hx21 : w.heap.size + 1 < w2.heap.size := (by omega)); (try have hx22 : w.heap.size + 1 + 1 < w2.heap.size := (by omega)); (try have hx23 : w.heap.size + 1 + 1 + 1 < w2.heap.size := (by omega)))))
  go_ret
  refine ⟨rfl, ?_⟩
  (repeat' (first | (with_reducible exact Below.refl _ _) | (with_reducible assumption) | (with_reducible refine Below.alloc ?_ ?_ _) | (with_reducible refine Below.drew ?_) | (with_reducible refine below_drewN ?_ _) | (with_reducible refine Below.setCell ?_ ?_ _) | (with_reducible refine chain ?_ (by assumption) ?_) | omega | (simp; done) | (simp; omega)))

set_option maxRecDepth 100000 in
set_option maxHeartbeats 4000000 in
theorem vm_i_l {r c : Int} {A : Option Addr} {n cp : Nat} {xs : List D5} {w : World} (hA : Rd w A xs) (hn : xs.length = n) (hr : dimB r = true) (hc : dimB c = true) (hnn : (n : Int) = r * c) :
    Calls Try.prog 78 #[mv r c A n cp] w fun ee w' => ee = .returned (.bool (allB xs)) ∧ Below w.heap.size w w' := by
  obtain ⟨r0, r1, c0, c1, p0, p1⟩ := prod_bd hr hc
  have hb : n ≤ 1024 := by omega
  have hq : ((n : Int) != r * c) = false := by simp; exact hnn
  clear hnn
  have HR := hid hr
  have HC := hid hc
  have HA := hid hA
  have HN := hid hn
  clear hr hc hA hn
  go_enter Try.func78, Try.ntmps78
  go_wp2_with (first | (go_at_call_of 144 (Value.int IntKind.i64 r); ((with_reducible refine (dm_i_t HR.out _).mono ?_); rintro ee w1 ⟨rfl, hb1⟩; obtain ⟨hc1, hf1, _⟩ := bcell hb1; have hz1 := hb1.size; (try simp at hz1); (try have hx10 : w.heap.size < w1.heap.size := (by omega)); (try have hx11 : w.heap.size + 1 < w1.heap.size := (by omega)); (try have hx12 : w.heap.size + 1 + 1 < w1.heap.size := (by omega)); (try have hx13 : w.heap.size + 1 + 1 + 1 < w1.heap.size := (by omega)))) | (go_at_call_of 144 (Value.int IntKind.i64 c); ((with_reducible refine (dm_i_t HC.out _).mono ?_); rintro ee w2 ⟨rfl, hb2⟩; obtain ⟨hc2, hf2, _⟩ := bcell hb2; have hz2 := hb2.size; (try simp at hz2); (try have hx20 : w.heap.size < w2.heap.size := (by omega)); (try have hx21 : w.heap.size + 1 < w2.heap.size := (by omega)); (try have hx22 : w.heap.size + 1 + 1 < w2.heap.size := (by omega)); (try have hx23 : w.heap.size + 1 + 1 + 1 < w2.heap.size := (by omega)))) | fail)
  have hB2 : Below w.heap.size w w2 := by (repeat' (first | (with_reducible exact Below.refl _ _) | (with_reducible assumption) | (with_reducible refine Below.alloc ?_ ?_ _) | (with_reducible refine Below.drew ?_) | (with_reducible refine below_drewN ?_ _) | (with_reducible refine Below.setCell ?_ ?_ _) | (with_reducible refine chain ?_ (by assumption) ?_) | omega | (simp; done) | (simp; omega)))
  generalize w2 = w3 at *
  go_loopg [29] n (fun k s1 wr => ∃ j : Nat, j + k = n ∧ s1 = .int .i64 (j : Int) ∧ Hid (allB (xs.take j) = true) ∧ Below w.heap.size w wr)
  case atStart => exact ⟨0, by omega, rfl, rfl, hB2⟩
  case round =>
    obtain ⟨j, hj, rfl, HJ, hB⟩ := hrel
    have hBz := hB.size
    cases gk with
    | zero =>
      obtain rfl : j = n := by omega
      have hall : allB xs = true := by have := HJ.out; rwa [List.take_of_length_le (by rw [HN.out]; exact Nat.le_refl _)] at this
      have HH := hid hall
      clear hall
      go_wp2_with (fail)
      go_ret
      exact ⟨by rw [HH.out]; rfl, hB⟩
    | succ m =>
      have hlt : j < n := by omega
      obtain ⟨x, hx⟩ : ∃ x, xs[j]? = some x := ⟨_, List.getElem?_eq_getElem (by rw [HN.out]; exact hlt)⟩
      obtain ⟨g, o, rfl, hC⟩ := HA.out j x hx
      obtain ⟨q0, q1, q2, q3, q4⟩ := hC.at_ (hB.block g hC.lt)
      clear hC
      have HX := hid hx
      clear hx
      cases hk : x.ok
      · have HK := hid hk
        clear hk
        go_wp2_with ((go_at_call 127; ((with_reducible refine (id_f (x := x) HK.out _).mono ?_); rintro ee w4 ⟨rfl, hb4⟩)))
        go_ret
        refine ⟨by rw [all_not HX.out HK.out]; rfl, ?_⟩
        (repeat' (first | (with_reducible exact Below.refl _ _) | (with_reducible assumption) | (with_reducible refine Below.alloc ?_ ?_ _) | (with_reducible refine Below.drew ?_) | (with_reducible refine below_drewN ?_ _) | (with_reducible refine Below.setCell ?_ ?_ _) | (with_reducible refine chain ?_ (by assumption) ?_) | omega | (simp; done) | (simp; omega)))
      · have HK := hid hk
        clear hk
        go_wp2_with ((go_at_call 127; ((with_reducible refine (id_t (x := x) HK.out _).mono ?_); rintro ee w4 ⟨rfl, hb4⟩)))
        go_roundg m
        case measure => omega
        case rel =>
          refine ⟨j + 1, by omega, by go_num, take_all HX.out HJ.out HK.out, ?_⟩
          (repeat' (first | (with_reducible exact Below.refl _ _) | (with_reducible assumption) | (with_reducible refine Below.alloc ?_ ?_ _) | (with_reducible refine Below.drew ?_) | (with_reducible refine below_drewN ?_ _) | (with_reducible refine Below.setCell ?_ ?_ _) | (with_reducible refine chain ?_ (by assumption) ?_) | omega | (simp; done) | (simp; omega)))

theorem vm_i {r c : Int} {A : Option Addr} {n cp : Nat} {xs : List D5} {w : World} (hA : Rd w A xs) (hn : xs.length = n) :
    Calls Try.prog 78 #[mv r c A n cp] w fun ee w' => ee = .returned (.bool (okM r c n xs)) ∧ Below w.heap.size w w' := by
  cases hr : dimB r
  · have : okM r c n xs = false := by unfold okM; rw [hr]; rfl
    rw [this]; exact vm_i_r hr w
  · cases hc : dimB c
    · have : okM r c n xs = false := by unfold okM; rw [hr, hc]; rfl
      rw [this]; exact vm_i_c hr hc w
    · by_cases hnn : (n : Int) = r * c
      · have : okM r c n xs = allB xs := by unfold okM; rw [hr, hc, decide_eq_true hnn]; rfl
        rw [this]; exact vm_i_l hA hn hr hc hnn
      · have : okM r c n xs = false := by unfold okM; rw [hr, hc, decide_eq_false hnn]; rfl
        rw [this]; exact vm_i_n hr hc hnn w
theorem vm_i_t {r c : Int} {A : Option Addr} {n cp : Nat} {xs : List D5} {w : World} (h : okM r c n xs = true) (hA : Rd w A xs) (hn : xs.length = n) :
    Calls Try.prog 78 #[mv r c A n cp] w fun ee w' => ee = .returned (.bool true) ∧ Below w.heap.size w w' := by
  have := vm_i (r := r) (c := c) (cp := cp) hA hn; rw [h] at this; exact this
theorem vm_i_f {r c : Int} {A : Option Addr} {n cp : Nat} {xs : List D5} {w : World} (h : okM r c n xs = false) (hA : Rd w A xs) (hn : xs.length = n) :
    Calls Try.prog 78 #[mv r c A n cp] w fun ee w' => ee = .returned (.bool false) ∧ Below w.heap.size w w' := by
  have := vm_i (r := r) (c := c) (cp := cp) hA hn; rw [h] at this; exact this

end Go.Proofs.Ytnjckeadcbfogaa
namespace Go.Proofs.Ytnjckeadcbfogaa
open Go.RowKit RM
set_option linter.unusedVariables false
set_option linter.unusedSimpArgs false
attribute [local irreducible] World.setCell

set_option maxRecDepth 100000 in
set_option maxHeartbeats 4000000 in
theorem rw_i {r : Int} {C i s g n cp : Nat} {w : World} (hs : (i : Int) * (C : Int) = (s : Int)) (he : ((i : Int) + 1) * (C : Int) = ((s + C : Nat) : Int)) (h1 : s + C ≤ cp) (h2 : cp ≤ 1048576) (h3 : 1 ≤ C) (h4 : i ≤ 1048576) :
    Calls Try.prog 120 #[mv r C (some ⟨g, 0, none⟩) n cp, .int .i64 (i : Int)] w fun ee w' => ee = .returned (.slice (some ⟨g, s * 5, none⟩) C C) ∧ Below w.heap.size w w' := by
  have b0 : (s : Int) + C ≤ cp := by omega
  have b1 : (cp : Int) ≤ 1048576 := by omega
  have b2 : (1 : Int) ≤ C := by omega
  have b3 : (s : Int) ≤ 1048576 := by omega
  have b4 : ¬ (cp = s) := by omega
  have b6 : s + C - s = C := by omega
  have b5 : (i : Int) ≤ 1048576 := by omega
  simp only [Int.natCast_add] at he
  go_enter Try.func120, Try.ntmps120
  go_wp2_with (fail)
  go_quiet (fail)
  go_wp2_with (fail)
  go_ret
  refine ⟨by show Ending.returned (Value.slice _ (s + C - s) (s + C - s)) = _; rw [b6], ?_⟩
  (repeat' (first | (with_reducible exact Below.refl _ _) | (with_reducible assumption) | (with_reducible refine Below.alloc ?_ ?_ _) | (with_reducible refine Below.drew ?_) | (with_reducible refine below_drewN ?_ _) | (with_reducible refine Below.setCell ?_ ?_ _) | (with_reducible refine chain ?_ (by assumption) ?_) | omega | (simp; done) | (simp; omega)))

set_option maxRecDepth 100000 in
set_option maxHeartbeats 4000000 in
theorem zm {r c n : Nat} {w : World} (hn : (r : Int) * (c : Int) = (n : Int)) (hb : n ≤ 1024) :
    Calls Try.prog 100 #[.int .i64 (r : Int), .int .i64 (c : Int)] w fun ee w' => ∃ g, ee = .returned (mv (r : Int) (c : Int) (some ⟨g, 0, none⟩) n n) ∧ Bk w' g 59 (List.replicate n z5) ∧ w.heap.size ≤ g ∧ Below w.heap.size w w' := by
  have hmk := mkD n (by omega)
  have e2 : IntKind.i64.wrap (n : Int) = (n : Int) := IntWalk.i64_in _ (by omega)
  go_enter Try.func100, Try.ntmps100
  go_wp2_with (fail)
  refine bodyPost_ret (v := mv (r : Int) (c : Int) (some ⟨w.heap.size + 1, 0, none⟩) n n) (by first | (simp [results, Try.results100, go_sem, *]; done) | (simp (disch := (first | omega | (simp; done) | (simp; omega))) [results, Try.results100, go_sem, *]; done)) rfl ⟨_, rfl, ?_, by omega, ?_⟩
  · exact Bk.made' (by simp)
  · (repeat' (first | (with_reducible exact Below.refl _ _) | (with_reducible assumption) | (with_reducible refine Below.alloc ?_ ?_ _) | (with_reducible refine Below.drew ?_) | (with_reducible refine below_drewN ?_ _) | (with_reducible refine Below.setCell ?_ ?_ _) | (with_reducible refine chain ?_ (by assumption) ?_) | omega | (simp; done) | (simp; omega)))

end Go.Proofs.Ytnjckeadcbfogaa
namespace Go.Proofs.Ytnjckeadcbfogaa
open Go.RowKit RM
set_option linter.unusedVariables false
set_option linter.unusedSimpArgs false
attribute [local irreducible] World.setCell

theorem append_ok {n : Nat} (h : n ≤ 1048576) : n + 1 ≤ maxLen ∧ (n + 1) * 40 ≤ 140737488355328 := by unfold maxLen; omega
/-- column k -/
def colF (c k : Nat) (xs : List D5) (i : Nat) : D5 := xs.getD (i * c + k) z5

set_option maxRecDepth 100000 in
set_option maxHeartbeats 4000000 in
theorem lcol {r : Nat} {c k n cp : Nat} {A : Option Addr} {xs : List D5} {w : World} (hA : Rd w A xs) (hn : xs.length = n) (hr : n = r * c) (hk : k < c) (hb : n ≤ 1024) (hr2 : r ≤ 32) (hc2 : c ≤ 32) :
    Calls Try.prog 98 #[mv (r : Int) (c : Int) A n cp, .int .i64 (k : Int)] w fun ee w' => ∃ (B : Option Addr) (cq : Nat), ee = .returned (mv (r : Int) 1 B r cq) ∧ Rd w' B (tab r (colF c k xs)) ∧ (∀ a, B = some a → w.heap.size ≤ a.block) ∧ Below w.heap.size w w' := by
  obtain ⟨i0, hi0, hz0, hz1, hz2⟩ := info_parts infoD
  have HA := hid hA
  have HN := hid hn
  have HR := hid hr
  have k0 : (k : Int) < (c : Int) := by omega
  have k1 : (c : Int) ≤ 32 := by omega
  have k2 : (r : Int) ≤ 32 := by omega
  clear hA hn hr
  obtain ⟨F, hF⟩ : ∃ F, F = colF c k xs := ⟨_, rfl⟩
  have HF := hid hF
  rw [← hF]
  clear hF
  go_enter Try.func98, Try.ntmps98
  go_wp2_with (fail)
  go_loopg [6] r (fun q s1 wr => ∃ (j : Nat) (v : Value), j + q = r ∧ s1 = .int .i64 (j : Int) ∧ Hid (Bx wr (w.heap.size) 28 #[.int .i64 (r : Int), .int .i64 (c : Int), .slice A n cp]) ∧ Hid (Bx wr (w.heap.size + 1) 28 #[.int .i64 0, .int .i64 0, .slice none 0 0]) ∧ Hid (Bx wr (w.heap.size + 1 + 1) 28 #[.int .i64 (r : Int), .int .i64 1, v]) ∧ Hid (Own5 wr (w.heap.size + 1 + 1 + 1) 59 v (tab j F)) ∧ w.heap.size + 1 + 1 + 1 ≤ wr.heap.size ∧ Below w.heap.size w wr)
  case atStart => exact ⟨0, .slice none 0 0, by omega, rfl, (by show Bx _ _ _ _; (repeat' (first | (with_reducible assumption) | (refine Bx.new (by first | (with_reducible rfl) | (simp; done))) | (with_reducible refine Bx.alloc ?_ _) | (with_reducible refine Bx.drew ?_) | (with_reducible refine Bx.drewN ?_ _) | (with_reducible refine Bx.mono ?_ (by assumption)) | (with_reducible refine Bx.badly ?_ (by assumption) (by omega)) | (with_reducible refine Bx.far ?_ (by (try simp only [World.size_alloc, World.size_drew]); omega)) | (with_reducible refine Bx.set ?_ rfl) | (with_reducible refine Bx.grown ?_ (by assumption) (by assumption))))), (by show Bx _ _ _ _; (repeat' (first | (with_reducible assumption) | (refine Bx.new (by first | (with_reducible rfl) | (simp; done))) | (with_reducible refine Bx.alloc ?_ _) | (with_reducible refine Bx.drew ?_) | (with_reducible refine Bx.drewN ?_ _) | (with_reducible refine Bx.mono ?_ (by assumption)) | (with_reducible refine Bx.badly ?_ (by assumption) (by omega)) | (with_reducible refine Bx.far ?_ (by (try simp only [World.size_alloc, World.size_drew]); omega)) | (with_reducible refine Bx.set ?_ rfl) | (with_reducible refine Bx.grown ?_ (by assumption) (by assumption))))), (by show Bx _ _ _ _; (repeat' (first | (with_reducible assumption) | (refine Bx.new (by first | (with_reducible rfl) | (simp; done))) | (with_reducible refine Bx.alloc ?_ _) | (with_reducible refine Bx.drew ?_) | (with_reducible refine Bx.drewN ?_ _) | (with_reducible refine Bx.mono ?_ (by assumption)) | (with_reducible refine Bx.badly ?_ (by assumption) (by omega)) | (with_reducible refine Bx.far ?_ (by (try simp only [World.size_alloc, World.size_drew]); omega)) | (with_reducible refine Bx.set ?_ rfl) | (with_reducible refine Bx.grown ?_ (by assumption) (by assumption))))), Own5.nil _ _ _, by simp, by (repeat' (first | (with_reducible exact Below.refl _ _) | (with_reducible assumption) | (with_reducible refine Below.alloc ?_ ?_ _) | (with_reducible refine Below.drew ?_) | (with_reducible refine below_drewN ?_ _) | (with_reducible refine Below.setCell ?_ ?_ _) | (with_reducible refine chain ?_ (by assumption) ?_) | omega | (simp; done) | (simp; omega)))⟩
  case round =>
    obtain ⟨j, v, hj, rfl, Xm, Xz, Xo, HO, hsz, hB⟩ := hrel
    have cm0 := Xm.out.c 0 rfl
    have cm1 := Xm.out.c 1 rfl
    have cm2 := Xm.out.c 2 rfl
    have lm := Xm.out.lt
    have cz0 := Xz.out.c 0 rfl
    have cz1 := Xz.out.c 1 rfl
    have cz2 := Xz.out.c 2 rfl
    have lz := Xz.out.lt
    have fz := Xz.out.f
    have co0 := Xo.out.c 0 rfl
    have co1 := Xo.out.c 1 rfl
    have co2 := Xo.out.c 2 rfl
    have lo := Xo.out.lt
    have fo := Xo.out.f
    cases gk with
    | zero =>
      obtain rfl : j = r := by omega
      have HO1 := HO.out
      obtain ⟨B, cq, rfl, hRd, hBa⟩ := HO1.form
      rw [tab_len] at HO1 co2
      have HBa := hid hBa
      clear hBa
      have HRd := hid hRd
      clear hRd
      go_wp2_with (fail)
      refine bodyPost_ret (v := mv (j : Int) 1 B j cq) (by first | (simp [results, Try.results98, go_sem, *]; done) | (simp (disch := (first | omega | (simp; done) | (simp; omega))) [results, Try.results98, go_sem, *]; done)) rfl ⟨B, cq, rfl, ?_, fun a ha => by have := (HBa.out a ha).1; omega, ?_⟩
      · exact ((HRd.out.far (fun a ha => by have := (HBa.out a ha).1; show _ ≠ w.heap.size + 1; omega) _).far (fun a ha => by have := (HBa.out a ha).1; show _ ≠ w.heap.size + 1; omega) _).far (fun a ha => by have := (HBa.out a ha).1; show _ ≠ w.heap.size + 1; omega) _
      · (repeat' (first | (with_reducible exact Below.refl _ _) | (with_reducible assumption) | (with_reducible refine Below.alloc ?_ ?_ _) | (with_reducible refine Below.setCell ?_ ?_ _) | omega | (simp; done)))
    | succ m =>
      have hlt : j < r := by omega
      have hvl := World.ownsRow.lt HO.out
      have nem : some (w.heap.size) ≠ v.ownBlock := fun e => by have := (hvl _ e.symm).1; omega
      have nez : some (w.heap.size + 1) ≠ v.ownBlock := fun e => by have := (hvl _ e.symm).1; omega
      have neo : some (w.heap.size + 1 + 1) ≠ v.ownBlock := fun e => by have := (hvl _ e.symm).1; omega
      have hq : j * c + k < n := by
        have h1 : (j + 1) * c ≤ r * c := Nat.mul_le_mul_right c hlt
        rw [Nat.add_mul, ← HR.out] at h1
        omega
      have hx := get_of (xs := xs) (q := j * c + k) (by rw [HN.out]; exact hq)
      obtain ⟨x, hxe⟩ : ∃ x, x = xs.getD (j * c + k) z5 := ⟨_, rfl⟩
      rw [← hxe] at hx
      have HX : Hid (F j = x) := by show F j = x; rw [HF.out, hxe]; rfl
      clear hxe
      obtain ⟨g, o, rfl, hC⟩ := HA.out _ x hx
      obtain ⟨q0, q1, q2, q3, q4⟩ := hC.at_ (hB.block g hC.lt)
      have hgw := hC.lt
      clear hC hx
      obtain ⟨t, ht⟩ : ∃ t, t = j * c := ⟨_, rfl⟩
      rw [← ht] at q0 q1 q2 q3 q4 hq
      have e1 : (j : Int) * (c : Int) = (t : Int) := by rw [ht]; simp
      clear ht
      obtain ⟨s, hs⟩ : ∃ s, s = t + k := ⟨_, rfl⟩
      rw [← hs] at q0 q1 q2 q3 q4 hq
      have e2 : IntKind.i64.wrap (t : Int) = (t : Int) := IntWalk.i64_in _ (by omega)
      have e3 : IntKind.i64.wrap ((t : Int) + (k : Int)) = (s : Int) := by rw [hs, Int.natCast_add]; exact IntWalk.i64_in _ (by omega)
      have e4 : (s : Int) < (n : Int) := by omega
      clear hs
      go_wp2_with (fail)
      have neg : some g ≠ v.ownBlock := fun e => by have := (hvl _ e.symm).1; omega
      have ycm2 : wr.drew.cell? ⟨w.heap.size, 2, none⟩ = some (.slice (some ⟨g, o, none⟩) n cp) := cm2
      have ycm1 : wr.drew.cell? ⟨w.heap.size, 1, none⟩ = some (.int .i64 (c : Int)) := cm1
      have yco2 : wr.drew.cell? ⟨w.heap.size + 1 + 1, 2, none⟩ = some (v) := co2
      have yq0 : wr.drew.cell? ⟨g, o + s * 5, none⟩ = some (.int .i64 x.a) := q0
      have yq1 : wr.drew.cell? ⟨g, o + s * 5 + 1, none⟩ = some (.int .i64 x.b) := q1
      have yq2 : wr.drew.cell? ⟨g, o + s * 5 + 2, none⟩ = some (.int .i64 x.c) := q2
      have yq3 : wr.drew.cell? ⟨g, o + s * 5 + 3, none⟩ = some (.int .i64 x.d) := q3
      have yq4 : wr.drew.cell? ⟨g, o + s * 5 + 4, none⟩ = some (.int .i64 x.e) := q4
      refine wp_region_x (fun w' => w'.cell? ⟨w.heap.size, 2, none⟩ = some (.slice (some ⟨g, o, none⟩) n cp) ∧ w'.cell? ⟨w.heap.size, 1, none⟩ = some (.int .i64 (c : Int)) ∧ w'.cell? ⟨w.heap.size + 1 + 1, 2, none⟩ = some (v) ∧ w'.cell? ⟨g, o + s * 5, none⟩ = some (.int .i64 x.a) ∧ w'.cell? ⟨g, o + s * 5 + 1, none⟩ = some (.int .i64 x.b) ∧ w'.cell? ⟨g, o + s * 5 + 2, none⟩ = some (.int .i64 x.c) ∧ w'.cell? ⟨g, o + s * 5 + 3, none⟩ = some (.int .i64 x.d) ∧ w'.cell? ⟨g, o + s * 5 + 4, none⟩ = some (.int .i64 x.e)) 15 (by kernel_rfl) ⟨ycm2, ycm1, yco2, yq0, yq1, yq2, yq3, yq4⟩ (fun hS0 => ?_)
      refine wpAnyX_take (i := 0) (oi := _) (v := ?_) rfl (by kernel_rfl) (by kernel_rfl) (by kernel_rfl) (by kernel_rfl) (fun _ _ _ h => h) (Or.inl ⟨by rfl, ?_⟩) hS0 ?_
      rotate_left 1
      · (intro w hSw; (try dsimp only at hSw); go_simp; (try with_reducible rfl))
      try simp only [Act.put, List.setIfInBounds_toArray, List.set_cons_zero, List.set_cons_succ]
      refine wpAnyX_take (i := 1) (oi := _) (v := ?_) rfl (by kernel_rfl) (by kernel_rfl) (by kernel_rfl) (by kernel_rfl) (fun _ _ _ h => h) (Or.inl ⟨by rfl, ?_⟩) hS0 ?_
      rotate_left 1
      · (intro w hSw; (try dsimp only at hSw); go_simp; (try with_reducible rfl))
      try simp only [Act.put, List.setIfInBounds_toArray, List.set_cons_zero, List.set_cons_succ]
      refine wpAnyX_take (i := 2) (oi := _) (v := ?_) rfl (by kernel_rfl) (by kernel_rfl) (by kernel_rfl) (by kernel_rfl) (fun _ _ _ h => h) (Or.inl ⟨by rfl, ?_⟩) hS0 ?_
      rotate_left 1
      · (intro w hSw; (try dsimp only at hSw); go_simp; (try with_reducible rfl))
      try simp only [Act.put, List.setIfInBounds_toArray, List.set_cons_zero, List.set_cons_succ]
      refine wpAnyX_take (i := 3) (oi := _) (v := ?_) rfl (by kernel_rfl) (by kernel_rfl) (by kernel_rfl) (by kernel_rfl) (fun _ _ _ h => h) (Or.inl ⟨by rfl, ?_⟩) hS0 ?_
      rotate_left 1
      · (intro w hSw; (try dsimp only at hSw); go_simp; (try with_reducible rfl))
      try simp only [Act.put, List.setIfInBounds_toArray, List.set_cons_zero, List.set_cons_succ]
      refine wpAnyX_take (i := 4) (oi := _) (v := ?_) rfl (by kernel_rfl) (by kernel_rfl) (by kernel_rfl) (by kernel_rfl) (fun _ _ _ h => h) (Or.inl ⟨by rfl, ?_⟩) hS0 ?_
      rotate_left 1
      · (intro w hSw; (try dsimp only at hSw); go_simp; (try with_reducible rfl))
      try simp only [Act.put, List.setIfInBounds_toArray, List.set_cons_zero, List.set_cons_succ]
      refine wpAnyX_take (i := 5) (oi := _) (v := ?_) rfl (by kernel_rfl) (by kernel_rfl) (by kernel_rfl) (by kernel_rfl) (fun _ _ _ h => h) (Or.inl ⟨by rfl, ?_⟩) hS0 ?_
      rotate_left 1
      · (intro w hSw; (try dsimp only at hSw); go_simp; (try with_reducible rfl))
      try simp only [Act.put, List.setIfInBounds_toArray, List.set_cons_zero, List.set_cons_succ]
      refine wpAnyX_take (i := 6) (oi := _) (v := ?_) rfl (by kernel_rfl) (by kernel_rfl) (by kernel_rfl) (by kernel_rfl) (fun _ _ _ h => h) (Or.inl ⟨by rfl, ?_⟩) hS0 ?_
      rotate_left 1
      · (intro w hSw; (try dsimp only at hSw); go_simp; (try with_reducible rfl))
      try simp only [Act.put, List.setIfInBounds_toArray, List.set_cons_zero, List.set_cons_succ]
      refine wpAnyX_take (i := 7) (oi := _) (v := ?_) rfl (by kernel_rfl) (by kernel_rfl) (by kernel_rfl) (by kernel_rfl) (fun _ _ _ h => h) (Or.inl ⟨by rfl, ?_⟩) hS0 ?_
      rotate_left 1
      · (intro w hSw; (try dsimp only at hSw); go_simp; (try with_reducible rfl))
      try simp only [Act.put, List.setIfInBounds_toArray, List.set_cons_zero, List.set_cons_succ]
      refine wpAnyX_take (i := 8) (oi := _) (v := ?_) rfl (by kernel_rfl) (by kernel_rfl) (by kernel_rfl) (by kernel_rfl) (fun _ _ _ h => h) (Or.inl ⟨by rfl, ?_⟩) hS0 ?_
      rotate_left 1
      · (intro w hSw; (try dsimp only at hSw); go_simp; (try with_reducible rfl))
      try simp only [Act.put, List.setIfInBounds_toArray, List.set_cons_zero, List.set_cons_succ]
      refine wpAnyX_take (i := 9) (oi := _) (v := ?_) rfl (by kernel_rfl) (by kernel_rfl) (by kernel_rfl) (by kernel_rfl) (fun _ _ _ h => h) (Or.inl ⟨by rfl, ?_⟩) hS0 ?_
      rotate_left 1
      · (intro w hSw; (try dsimp only at hSw); go_simp; (try with_reducible rfl))
      try simp only [Act.put, List.setIfInBounds_toArray, List.set_cons_zero, List.set_cons_succ]
      refine wpAnyX_take (i := 10) (oi := _) (v := ?_) rfl (by kernel_rfl) (by kernel_rfl) (by kernel_rfl) (by kernel_rfl) (fun _ _ _ h => h) (Or.inl ⟨by rfl, ?_⟩) hS0 ?_
      rotate_left 1
      · (intro w hSw; (try dsimp only at hSw); go_simp; (try with_reducible rfl))
      try simp only [Act.put, List.setIfInBounds_toArray, List.set_cons_zero, List.set_cons_succ]
      refine wpAnyX_take (i := 11) (oi := _) (v := ?_) rfl (by kernel_rfl) (by kernel_rfl) (by kernel_rfl) (by kernel_rfl) (fun _ _ _ h => h) (Or.inl ⟨by rfl, ?_⟩) hS0 ?_
      rotate_left 1
      · (intro w hSw; (try dsimp only at hSw); go_simp; (try with_reducible rfl))
      try simp only [Act.put, List.setIfInBounds_toArray, List.set_cons_zero, List.set_cons_succ]
      refine wpAnyX_one (i := 12) (o := _) rfl (by kernel_rfl) (fun K hK => ?_)
      go_simp
      refine hK.out _ _ (fun _ => ?_) (fun hS1 => ?_)
      · first | exact ⟨kal (hS0.1), kal (hS0.2.1), kal (hS0.2.2.1), kal (hS0.2.2.2.1), kal (hS0.2.2.2.2.1), kal (hS0.2.2.2.2.2.1), kal (hS0.2.2.2.2.2.2.1), kal (hS0.2.2.2.2.2.2.2)⟩ | exact ⟨kald (hS0.1), kald (hS0.2.1), kald (hS0.2.2.1), kald (hS0.2.2.2.1), kald (hS0.2.2.2.2.1), kald (hS0.2.2.2.2.2.1), kald (hS0.2.2.2.2.2.2.1), kald (hS0.2.2.2.2.2.2.2)⟩
      clear hK K
      have hS1 := hS1 (by decide)
      try simp only [Act.put, List.setIfInBounds_toArray, List.set_cons_zero, List.set_cons_succ]
      refine wpAnyX_one (i := 13) (o := _) rfl (by kernel_rfl) (fun K hK => ?_)
      refine step_append_lies _ (by rfl) _ _ _ (by rfl) (w.heap.size + 1 + 1 + 1) 59 i0 _ 5 40 Try.underlying26 hi0 hz0 hz1 hz2 rfl (by omega) v j (csL (tab j F)) (by rfl) (((World.ownsRow.alloc (by have := HO.out; unfold Own5 at this; rw [tab_len] at this; exact this) _).drew)) ⟨wr.heap.size, 0, none⟩ 1 1 x.cs (by rfl) (by rfl) (World.news_of_block (cs := x.cs.toArray) (t := 59) (fr := (0, 0)) (heap_alloc_new _ _)) (by simp [D5.cs, Value.oneCell']) (by omega) (append_ok (by omega)).1 (append_ok (by omega)).2 (by simp; omega) (wr.heap.size + 1) (by simp) ?_; intro gg cap w9 hown9 hgrow9 hat9 hlt9
      refine hK.out _ _ (fun _ => ?_) (fun hS2 => ?_)
      · exact ⟨hgrow9.cell (hS1.1) nem, hgrow9.cell (hS1.2.1) nem, hgrow9.cell (hS1.2.2.1) neo, hgrow9.cell (hS1.2.2.2.1) neg, hgrow9.cell (hS1.2.2.2.2.1) neg, hgrow9.cell (hS1.2.2.2.2.2.1) neg, hgrow9.cell (hS1.2.2.2.2.2.2.1) neg, hgrow9.cell (hS1.2.2.2.2.2.2.2) neg⟩
      clear hK K
      have hS2 := hS2 (by decide)
      try simp only [Act.put, List.setIfInBounds_toArray, List.set_cons_zero, List.set_cons_succ]
      refine wpAnyX_take (i := 14) (oi := _) (v := ?_) rfl (by kernel_rfl) (by kernel_rfl) (by kernel_rfl) (by kernel_rfl) (fun _ _ _ h => h) (Or.inl ⟨by rfl, ?_⟩) hS2 ?_
      rotate_left 1
      · (intro w hSw; (try dsimp only at hSw); go_simp; (try with_reducible rfl))
      try simp only [Act.put, List.setIfInBounds_toArray, List.set_cons_zero, List.set_cons_succ]
      refine wpAnyX_one (i := 15) (o := _) rfl (by kernel_rfl) (fun K hK => ?_)
      have Yo := (Bx.drew (Bx.alloc Xo.out _)).grown hgrow9 neo
      have yo2 := Yo.c 2 rfl
      have yof := Yo.f 2
      go_simp
      refine hK.out _ _ (fun h => absurd rfl h) (fun _ => ?_)
      clear hK K
      try simp only [Act.put, List.setIfInBounds_toArray, List.set_cons_zero, List.set_cons_succ]
      refine wpAnyX_done (by kernel_rfl) ?_ _
      go_wp2_with (fail)
      go_roundg m
      case measure => omega
      case rel =>
        have hz9 := hgrow9.size
        simp only [World.size_alloc, World.size_drew] at hz9
        have Ym := (Bx.drew (Bx.alloc Xm.out _)).grown hgrow9 nem
        have Yz := (Bx.drew (Bx.alloc Xz.out _)).grown hgrow9 nez
        refine ⟨j + 1, .slice (some ⟨gg, 0, none⟩) (j + 1) cap, by omega, by go_num, Ym.far (by omega), Yz.far (by omega), Yo.set rfl, ?_, by (try simp only [World.size_setCell, World.size_drew]); omega, ?_⟩
        · show Own5 _ _ _ _ _
          rw [tab_succ, HX.out]
          exact (Own5.snoc (tab_len _ _) hown9).far (by show w.heap.size + 1 + 1 < _; omega) _
        · refine Below.setCell ?_ (by show w.heap.size ≤ w.heap.size + 1 + 1; omega) _
          refine Below.grown (((hB.alloc (by omega) _)).drew) hgrow9 (by simp only [World.size_drew, World.size_alloc]; omega) (fun q e => by have := (hvl _ e).1; omega)

set_option maxRecDepth 100000 in
set_option maxHeartbeats 2000000 in
theorem in_t {k lo hi : Int} (h1 : lo ≤ k) (h2 : k ≤ hi) (w : World) :
    Calls Try.prog 97 #[.int .i64 k, .int .i64 lo, .int .i64 hi] w fun ee w' => ee = .returned (.bool true) ∧ w = w' := by
  go_enter Try.func97, Try.ntmps97
  go_wp2_with (fail)
  go_ret
  exact ⟨rfl, rfl⟩

set_option maxRecDepth 100000 in
set_option maxHeartbeats 2000000 in
theorem in_l {k lo hi : Int} (h1 : k < lo) (w : World) :
    Calls Try.prog 97 #[.int .i64 k, .int .i64 lo, .int .i64 hi] w fun ee w' => ee = .returned (.bool false) ∧ w = w' := by
  have h2 : decide (lo ≤ k) = false := by simp; omega
  go_enter Try.func97, Try.ntmps97
  go_wp2_with (fail)
  go_ret
  exact ⟨rfl, rfl⟩

set_option maxRecDepth 100000 in
set_option maxHeartbeats 2000000 in
theorem in_h {k lo hi : Int} (h1 : lo ≤ k) (h3 : hi < k) (w : World) :
    Calls Try.prog 97 #[.int .i64 k, .int .i64 lo, .int .i64 hi] w fun ee w' => ee = .returned (.bool false) ∧ w = w' := by
  have h2 : decide (k ≤ hi) = false := by simp; omega
  go_enter Try.func97, Try.ntmps97
  go_wp2_with (fail)
  go_ret
  exact ⟨rfl, rfl⟩

theorem okM_nat {r c : Int} {n : Nat} {xs : List D5} (h : okM r c n xs = true) : ∃ R C : Nat, r = (R : Int) ∧ c = (C : Int) ∧ n = R * C ∧ 1 ≤ R ∧ R ≤ 32 ∧ 1 ≤ C ∧ C ≤ 32 ∧ n ≤ 1024 := by
  obtain ⟨h1, h2, h3, _⟩ := okM_iff.1 h
  obtain ⟨r0, r1, c0, c1, p0, p1⟩ := prod_bd h1 h2
  refine ⟨r.toNat, c.toNat, by omega, by omega, ?_, by omega, by omega, by omega, by omega, by omega⟩
  have : ((r.toNat * c.toNat : Nat) : Int) = r * c := by rw [Int.natCast_mul, Int.toNat_of_nonneg (by omega), Int.toNat_of_nonneg (by omega)]
  omega

end Go.Proofs.Ytnjckeadcbfogaa
