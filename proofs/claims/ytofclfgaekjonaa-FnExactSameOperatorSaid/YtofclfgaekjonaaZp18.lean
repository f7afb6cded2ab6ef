/- Lh, Vm2, Ro, Col, Bad3, ColI, CutG, TrS, Li -/
import Derived.Test.YtofclfgaekjonaaZp17
import Derived.Test.YtofclfgaekjonaaZp14
import Derived.Deep.RegionWith
import Derived.Deep.LoopGhost
import Derived.Test.YtofclfgaekjonaaZp8
import Derived.BigQuiet
import Derived.Deep.QuietTactic
import Derived.IntWalk
import Derived.Test.YtofclfgaekjonaaZp13
import Derived.Deep.RegionLaw
import Derived.Deep.RegionHeld3
import Derived.Deep.DeepCutAuto
import Derived.Test.YtofclfgaekjonaaZp7
namespace Go.Proofs.Ytofclfgaekjonaa
open Go.RowKit RM
set_option linter.unusedVariables false
set_option linter.unusedSimpArgs false
attribute [local irreducible] World.setCell

open GM
theorem cb {α : Type} {a b : Nat} {x y : α} : (bif a.beq b then x else y) = if a = b then x else y := by
  cases h : a.beq b
  · rw [if_neg (fun e => by subst e; simp at h)]; rfl
  · rw [if_pos (Nat.eq_of_beq_eq_true h)]; rfl
theorem cc1 : cellC 1 = omP 0 := (cellC_at (m := 0) (e := 0) (by decide)).trans cellD_0
theorem cc2 : cellC 2 = omP 1 := (cellC_at (m := 1) (e := 0) (by decide)).trans cellD_0
theorem cc5 : cellC 5 = omP 4 := (cellC_at (m := 4) (e := 0) (by decide)).trans cellD_0
theorem cc0 : cellC 0 = z5 := rfl
theorem gS_12 {n A B r c : Nat} : gS n 12 A B r c = if r = c then 2 else 0 := cb
theorem gS_9 {n A B r c : Nat} : gS n 9 A B r c = if r = (if bitS n c A = 1 then c ^^^ msk n B else c) then 1 else 0 := by
  show (bif r.beq (bif (bitS n c A).beq 1 then c ^^^ msk n B else c) then 1 else 0) = _
  rw [cb, cb]
theorem gS_10 {n A B r c : Nat} : gS n 10 A B r c = if r = c then (if bitS n c A = 1 ∧ bitS n c B = 1 then 5 else 1) else 0 := by
  show (bif r.beq c then (bif (bitS n c A).beq 1 && (bitS n c B).beq 1 then 5 else 1) else 0) = _
  rw [cb]
  by_cases h1 : bitS n c A = 1
  · by_cases h2 : bitS n c B = 1
    · rw [h1, h2]; rfl
    · have e : (bitS n c B).beq 1 = false := by cases h : (bitS n c B).beq 1; rfl; exact absurd (Nat.eq_of_beq_eq_true h) h2
      rw [e, Bool.and_false, if_neg (c := bitS n c A = 1 ∧ bitS n c B = 1) (fun h => h2 h.2)]; rfl
  · have e : (bitS n c A).beq 1 = false := by cases h : (bitS n c A).beq 1; rfl; exact absurd (Nat.eq_of_beq_eq_true h) h1
    rw [e, Bool.false_and, if_neg (c := bitS n c A = 1 ∧ bitS n c B = 1) (fun h => h1 h.1)]; rfl
theorem gS_11 {n A B r c : Nat} : gS n 11 A B r c = if r = (if bitS n c A = bitS n c B then c else c ^^^ msk n A ^^^ msk n B) then 1 else 0 := by
  show (bif r.beq (bif (bitS n c A).beq (bitS n c B) then c else c ^^^ msk n A ^^^ msk n B) then 1 else 0) = _
  rw [cb, cb]
theorem gS_1 {n kd A B r c : Nat} (h1 : 1 ≤ kd) (h8 : kd ≤ 8) : gS n kd A B r c = if (r ^^^ c) - ((r ^^^ c) &&& msk n A) = 0 then one kd (2 * bitS n r A + bitS n c A) else 0 := by
  have : kd = 1 ∨ kd = 2 ∨ kd = 3 ∨ kd = 4 ∨ kd = 5 ∨ kd = 6 ∨ kd = 7 ∨ kd = 8 := by omega
  rcases this with rfl | rfl | rfl | rfl | rfl | rfl | rfl | rfl <;> exact cb
theorem lcell {n kd A B r c : Nat} {w : World} (h : okG n kd A B) (hr : r < 2 ^ n) (hc : c < 2 ^ n) :
    Calls Try.prog 194 #[.int .i64 (n : Int), .agg #[.int .i64 (kd : Int), .int .i64 (A : Int), .int .i64 (B : Int)], .int .i64 (r : Int), .int .i64 (c : Int)] w fun ee w' => ee = .returned (cellC (gS n kd A B r c)).v ∧ Below w.heap.size w w' := by
  obtain ⟨h1, h5, h3⟩ := h
  rcases h3 with ⟨k1, k8, hA, rfl⟩ | ⟨k9, k11, hA, hB, hne⟩ | ⟨rfl, rfl, rfl⟩
  · rw [gS_1 k1 k8]
    by_cases hz : (r ^^^ c) - ((r ^^^ c) &&& msk n A) = 0
    · rw [if_pos hz]; exact lc1_0 k1 k8 h5 hr hc hA hz
    · rw [if_neg hz, cc0]; exact lc1_1 k1 k8 h5 hr hc hA hz
  · have : kd = 9 ∨ kd = 10 ∨ kd = 11 := by omega
    rcases this with rfl | rfl | rfl
    · rw [gS_9]
      rcases bitS_01 (n := n) (c := c) (q := A) with hb | hb
      · rw [if_neg (c := bitS n c A = 1) (by omega)]
        by_cases he : r = c
        · rw [if_pos he, cc1]; exact lc9_01 h5 hr hc hA hB hb he
        · rw [if_neg he, cc0]; exact lc9_00 h5 hr hc hA hB hb he
      · rw [if_pos (c := bitS n c A = 1) hb]
        by_cases he : r = c ^^^ msk n B
        · rw [if_pos he, cc1]; exact lc9_11 h5 hr hc hA hB hb he
        · rw [if_neg he, cc0]; exact lc9_10 h5 hr hc hA hB hb he
    · rw [gS_10]
      by_cases he : r = c
      · rw [if_pos he]
        rcases bitS_01 (n := n) (c := c) (q := A) with hb | hb
        · rw [if_neg (by omega), cc1]; exact lc10_01 h5 hr hc hA hB hb he
        · rcases bitS_01 (n := n) (c := c) (q := B) with hb2 | hb2
          · rw [if_neg (by omega), cc1]; exact lc10_101 h5 hr hc hA hB hb hb2 he
          · rw [if_pos ⟨hb, hb2⟩, cc5]; exact lc10_111 h5 hr hc hA hB hb hb2 he
      · rw [if_neg he, cc0]
        rcases bitS_01 (n := n) (c := c) (q := A) with hb | hb
        · exact lc10_00 h5 hr hc hA hB hb he
        · rcases bitS_01 (n := n) (c := c) (q := B) with hb2 | hb2
          · exact lc10_100 h5 hr hc hA hB hb hb2 he
          · exact lc10_110 h5 hr hc hA hB hb hb2 he
    · rw [gS_11]
      by_cases hbb : bitS n c A = bitS n c B
      · rw [if_pos (c := bitS n c A = bitS n c B) hbb]
        by_cases he : r = c
        · rw [if_pos he, cc1]; exact lc11_11 h5 hr hc hA hB hbb he
        · rw [if_neg he, cc0]; exact lc11_10 h5 hr hc hA hB hbb he
      · rw [if_neg (c := bitS n c A = bitS n c B) hbb]
        by_cases he : r = c ^^^ msk n A ^^^ msk n B
        · rw [if_pos he, cc1]; exact lc11_01 h5 hr hc hA hB hbb he
        · rw [if_neg he, cc0]; exact lc11_00 h5 hr hc hA hB hbb he
  · rw [gS_12]
    by_cases he : r = c
    · rw [if_pos he, cc2]; exact lc12_1 h5 hr hc he
    · rw [if_neg he, cc0]; exact lc12_0 h5 hr hc he
end Go.Proofs.Ytofclfgaekjonaa
namespace Go.Proofs.Ytofclfgaekjonaa
open Go.RowKit RM
set_option linter.unusedVariables false
set_option linter.unusedSimpArgs false
attribute [local irreducible] World.setCell

set_option maxRecDepth 100000 in
set_option maxHeartbeats 4000000 in
theorem vm_i_r {r c : Int} {A : Option Addr} {n cp : Nat} (hr : dimB r = false) (w : World) :
    Calls Try.prog 60 #[mv r c A n cp] w fun ee w' => ee = .returned (.bool false) ∧ Below w.heap.size w w' := by
  have HR := hid hr
  clear hr
  go_enter Try.func60, Try.ntmps60
  go_wp2_with ((go_at_call 110; ((with_reducible refine (dm_i_f HR.out _).mono ?_); rintro ee w1 ⟨rfl, hb1⟩; obtain ⟨hc1, hf1, _⟩ := bcell hb1; have hz1 := hb1.size; (try simp at hz1); (try have hx10 : w.heap.size < w1.heap.size := (by omega)); (try have hx11 : w.heap.size + 1 < w1.heap.size := (by omega)); (try have hx12 : w.heap.size + 1 + 1 < w1.heap.size := (by omega)); (try have hx13 : w.heap.size + 1 + 1 + 1 < w1.heap.size := (by omega)))))
  go_ret
  refine ⟨rfl, ?_⟩
  (repeat' (first | (with_reducible exact Below.refl _ _) | (with_reducible assumption) | (with_reducible refine Below.alloc ?_ ?_ _) | (with_reducible refine Below.drew ?_) | (with_reducible refine below_drewN ?_ _) | (with_reducible refine Below.setCell ?_ ?_ _) | (with_reducible refine chain ?_ (by assumption) ?_) | omega | (simp; done) | (simp; omega)))

set_option maxRecDepth 100000 in
set_option maxHeartbeats 4000000 in
theorem vm_i_c {r c : Int} {A : Option Addr} {n cp : Nat} (hr : dimB r = true) (hc : dimB c = false) (w : World) :
    Calls Try.prog 60 #[mv r c A n cp] w fun ee w' => ee = .returned (.bool false) ∧ Below w.heap.size w w' := by
  have HR := hid hr
  clear hr
  have HC := hid hc
  clear hc
  go_enter Try.func60, Try.ntmps60
  go_wp2_with (first | (go_at_call_of 110 (Value.int IntKind.i64 r); ((with_reducible refine (dm_i_t HR.out _).mono ?_); rintro ee w1 ⟨rfl, hb1⟩; obtain ⟨hc1, hf1, _⟩ := bcell hb1; have hz1 := hb1.size; (try simp at hz1); (try have hx10 : w.heap.size < w1.heap.size := (by omega)); (try have hx11 : w.heap.size + 1 < w1.heap.size := (by omega)); (try have hx12 : w.heap.size + 1 + 1 < w1.heap.size := (by omega)); (try have hx13 : w.heap.size + 1 + 1 + 1 < w1.heap.size := (by omega)))) | (go_at_call_of 110 (Value.int IntKind.i64 c); ((with_reducible refine (dm_i_f HC.out _).mono ?_); rintro ee w2 ⟨rfl, hb2⟩; obtain ⟨hc2, hf2, _⟩ := bcell hb2; have hz2 := hb2.size; (try simp at hz2); (try have hx20 : w.heap.size < w2.heap.size := (by omega)); (try have hx21 : w.heap.size + 1 < w2.heap.size := (by omega)); (try have hx22 : w.heap.size + 1 + 1 < w2.heap.size := (by omega)); (try have hx23 : w.heap.size + 1 + 1 + 1 < w2.heap.size := (by omega)))))
  go_ret
  refine ⟨rfl, ?_⟩
  (repeat' (first | (with_reducible exact Below.refl _ _) | (with_reducible assumption) | (with_reducible refine Below.alloc ?_ ?_ _) | (with_reducible refine Below.drew ?_) | (with_reducible refine below_drewN ?_ _) | (with_reducible refine Below.setCell ?_ ?_ _) | (with_reducible refine chain ?_ (by assumption) ?_) | omega | (simp; done) | (simp; omega)))

set_option maxRecDepth 100000 in
set_option maxHeartbeats 4000000 in
theorem vm_i_n {r c : Int} {A : Option Addr} {n cp : Nat} (hr : dimB r = true) (hc : dimB c = true) (hnn : (n : Int) ≠ r * c) (w : World) :
    Calls Try.prog 60 #[mv r c A n cp] w fun ee w' => ee = .returned (.bool false) ∧ Below w.heap.size w w' := by
  obtain ⟨r0, r1, c0, c1, p0, p1⟩ := prod_bd hr hc
  have hq : ((n : Int) != r * c) = true := by simp; exact hnn
  clear hnn
  have HR := hid hr
  clear hr
  have HC := hid hc
  clear hc
  go_enter Try.func60, Try.ntmps60
  go_wp2_with (first | (go_at_call_of 110 (Value.int IntKind.i64 r); ((with_reducible refine (dm_i_t HR.out _).mono ?_); rintro ee w1 ⟨rfl, hb1⟩; obtain ⟨hc1, hf1, _⟩ := bcell hb1; have hz1 := hb1.size; (try simp at hz1); (try have hx10 : w.heap.size < w1.heap.size := (by omega)); (try have hx11 : w.heap.size + 1 < w1.heap.size := (by omega)); (try have hx12 : w.heap.size + 1 + 1 < w1.heap.size := (by omega)); (try have hx13 : w.heap.size + 1 + 1 + 1 < w1.heap.size := (by omega)))) | (go_at_call_of 110 (Value.int IntKind.i64 c); ((with_reducible refine (dm_i_t HC.out _).mono ?_); rintro ee w2 ⟨rfl, hb2⟩; obtain ⟨hc2, hf2, _⟩ := bcell hb2; have hz2 := hb2.size; (try simp at hz2); (try have hx20 : w.heap.size < w2.heap.size := (by omega)); (try have hx21 : w.heap.size + 1 < w2.heap.size := (by omega)); (try have hx22 : w.heap.size + 1 + 1 < w2.heap.size := (by omega)); (try have hx23 : w.heap.size + 1 + 1 + 1 < w2.heap.size := (by omega)))))
  go_ret
  refine ⟨rfl, ?_⟩
  (repeat' (first | (with_reducible exact Below.refl _ _) | (with_reducible assumption) | (with_reducible refine Below.alloc ?_ ?_ _) | (with_reducible refine Below.drew ?_) | (with_reducible refine below_drewN ?_ _) | (with_reducible refine Below.setCell ?_ ?_ _) | (with_reducible refine chain ?_ (by assumption) ?_) | omega | (simp; done) | (simp; omega)))

set_option maxRecDepth 100000 in
set_option maxHeartbeats 4000000 in
theorem vm_i_l {r c : Int} {A : Option Addr} {n cp : Nat} {xs : List D5} {w : World} (hA : Rd w A xs) (hn : xs.length = n) (hr : dimB r = true) (hc : dimB c = true) (hnn : (n : Int) = r * c) :
    Calls Try.prog 60 #[mv r c A n cp] w fun ee w' => ee = .returned (.bool (allB xs)) ∧ Below w.heap.size w w' := by
  obtain ⟨r0, r1, c0, c1, p0, p1⟩ := prod_bd hr hc
  have hb : n ≤ 1024 := by omega
  have hq : ((n : Int) != r * c) = false := by simp; exact hnn
  clear hnn
  have HR := hid hr
  have HC := hid hc
  have HA := hid hA
  have HN := hid hn
  clear hr hc hA hn
  go_enter Try.func60, Try.ntmps60
  go_wp2_with (first | (go_at_call_of 110 (Value.int IntKind.i64 r); ((with_reducible refine (dm_i_t HR.out _).mono ?_); rintro ee w1 ⟨rfl, hb1⟩; obtain ⟨hc1, hf1, _⟩ := bcell hb1; have hz1 := hb1.size; (try simp at hz1); (try have hx10 : w.heap.size < w1.heap.size := (by omega)); (try have hx11 : w.heap.size + 1 < w1.heap.size := (by omega)); (try have hx12 : w.heap.size + 1 + 1 < w1.heap.size := (by omega)); (try have hx13 : w.heap.size + 1 + 1 + 1 < w1.heap.size := (by omega)))) | (go_at_call_of 110 (Value.int IntKind.i64 c); ((with_reducible refine (dm_i_t HC.out _).mono ?_); rintro ee w2 ⟨rfl, hb2⟩; obtain ⟨hc2, hf2, _⟩ := bcell hb2; have hz2 := hb2.size; (try simp at hz2); (try have hx20 : w.heap.size < w2.heap.size := (by omega)); (try have hx21 : w.heap.size + 1 < w2.heap.size := (by omega)); (try have hx22 : w.heap.size + 1 + 1 < w2.heap.size := (by omega)); (try have hx23 : w.heap.size + 1 + 1 + 1 < w2.heap.size := (by omega)))) | fail)
  have hB2 : Below w.heap.size w w2 := by (repeat' (first | (with_reducible exact Below.refl _ _) | (with_reducible assumption) | (with_reducible refine Below.alloc ?_ ?_ _) | (with_reducible refine Below.drew ?_) | (with_reducible refine below_drewN ?_ _) | (with_reducible refine Below.setCell ?_ ?_ _) | (with_reducible refine chain ?_ (by assumption) ?_) | omega | (simp; done) | (simp; omega)))
  generalize w2 = w3 at *
  go_loopg [29] n (fun k s1 wr => ∃ j : Nat, j + k = n ∧ s1 = .int .i64 (j : Int) ∧ Hid (allB (xs.take j) = true) ∧ Below w.heap.size w wr)
  case atStart => exact ⟨0, by omega, rfl, rfl, hB2⟩
  case round =>
    obtain ⟨j, hj, rfl, HJ, hB⟩ := hrel
    have hBz := hB.size
    cases gk with
    | zero =>
      obtain rfl : j = n := by omega
      have hall : allB xs = true := by have := HJ.out; rwa [List.take_of_length_le (by rw [HN.out]; exact Nat.le_refl _)] at this
      have HH := hid hall
      clear hall
      go_wp2_with (fail)
      go_ret
      exact ⟨by rw [HH.out]; rfl, hB⟩
    | succ m =>
      have hlt : j < n := by omega
      obtain ⟨x, hx⟩ : ∃ x, xs[j]? = some x := ⟨_, List.getElem?_eq_getElem (by rw [HN.out]; exact hlt)⟩
      obtain ⟨g, o, rfl, hC⟩ := HA.out j x hx
      obtain ⟨q0, q1, q2, q3, q4⟩ := hC.at_ (hB.block g hC.lt)
      clear hC
      have HX := hid hx
      clear hx
      cases hk : x.ok
      · have HK := hid hk
        clear hk
        go_wp2_with ((go_at_call 71; ((with_reducible refine (id_f (x := x) HK.out _).mono ?_); rintro ee w4 ⟨rfl, hb4⟩)))
        go_ret
        refine ⟨by rw [all_not HX.out HK.out]; rfl, ?_⟩
        (repeat' (first | (with_reducible exact Below.refl _ _) | (with_reducible assumption) | (with_reducible refine Below.alloc ?_ ?_ _) | (with_reducible refine Below.drew ?_) | (with_reducible refine below_drewN ?_ _) | (with_reducible refine Below.setCell ?_ ?_ _) | (with_reducible refine chain ?_ (by assumption) ?_) | omega | (simp; done) | (simp; omega)))
      · have HK := hid hk
        clear hk
        go_wp2_with ((go_at_call 71; ((with_reducible refine (id_t (x := x) HK.out _).mono ?_); rintro ee w4 ⟨rfl, hb4⟩)))
        go_roundg m
        case measure => omega
        case rel =>
          refine ⟨j + 1, by omega, by go_num, take_all HX.out HJ.out HK.out, ?_⟩
          (repeat' (first | (with_reducible exact Below.refl _ _) | (with_reducible assumption) | (with_reducible refine Below.alloc ?_ ?_ _) | (with_reducible refine Below.drew ?_) | (with_reducible refine below_drewN ?_ _) | (with_reducible refine Below.setCell ?_ ?_ _) | (with_reducible refine chain ?_ (by assumption) ?_) | omega | (simp; done) | (simp; omega)))

theorem vm_i {r c : Int} {A : Option Addr} {n cp : Nat} {xs : List D5} {w : World} (hA : Rd w A xs) (hn : xs.length = n) :
    Calls Try.prog 60 #[mv r c A n cp] w fun ee w' => ee = .returned (.bool (okM r c n xs)) ∧ Below w.heap.size w w' := by
  cases hr : dimB r
  · have : okM r c n xs = false := by unfold okM; rw [hr]; rfl
    rw [this]; exact vm_i_r hr w
  · cases hc : dimB c
    · have : okM r c n xs = false := by unfold okM; rw [hr, hc]; rfl
      rw [this]; exact vm_i_c hr hc w
    · by_cases hnn : (n : Int) = r * c
      · have : okM r c n xs = allB xs := by unfold okM; rw [hr, hc, decide_eq_true hnn]; rfl
        rw [this]; exact vm_i_l hA hn hr hc hnn
      · have : okM r c n xs = false := by unfold okM; rw [hr, hc, decide_eq_false hnn]; rfl
        rw [this]; exact vm_i_n hr hc hnn w
theorem vm_i_t {r c : Int} {A : Option Addr} {n cp : Nat} {xs : List D5} {w : World} (h : okM r c n xs = true) (hA : Rd w A xs) (hn : xs.length = n) :
    Calls Try.prog 60 #[mv r c A n cp] w fun ee w' => ee = .returned (.bool true) ∧ Below w.heap.size w w' := by
  have := vm_i (r := r) (c := c) (cp := cp) hA hn; rw [h] at this; exact this
end Go.Proofs.Ytofclfgaekjonaa
namespace Go.Proofs.Ytofclfgaekjonaa
open Go.RowKit RM
set_option linter.unusedVariables false
set_option linter.unusedSimpArgs false
attribute [local irreducible] World.setCell

set_option maxRecDepth 100000 in
set_option maxHeartbeats 4000000 in
theorem rw_i {r : Int} {C i s g n cp : Nat} {w : World} (hs : (i : Int) * (C : Int) = (s : Int)) (he : ((i : Int) + 1) * (C : Int) = ((s + C : Nat) : Int)) (h1 : s + C ≤ cp) (h2 : cp ≤ 1048576) (h3 : 1 ≤ C) (h4 : i ≤ 1048576) :
    Calls Try.prog 99 #[mv r C (some ⟨g, 0, none⟩) n cp, .int .i64 (i : Int)] w fun ee w' => ee = .returned (.slice (some ⟨g, s * 5, none⟩) C C) ∧ Below w.heap.size w w' := by
  have b0 : (s : Int) + C ≤ cp := by omega
  have b1 : (cp : Int) ≤ 1048576 := by omega
  have b2 : (1 : Int) ≤ C := by omega
  have b3 : (s : Int) ≤ 1048576 := by omega
  have b4 : ¬ (cp = s) := by omega
  have b6 : s + C - s = C := by omega
  have b5 : (i : Int) ≤ 1048576 := by omega
  simp only [Int.natCast_add] at he
  go_enter Try.func99, Try.ntmps99
  go_wp2_with (fail)
  go_quiet (fail)
  go_wp2_with (fail)
  go_ret
  refine ⟨by show Ending.returned (Value.slice _ (s + C - s) (s + C - s)) = _; rw [b6], ?_⟩
  (repeat' (first | (with_reducible exact Below.refl _ _) | (with_reducible assumption) | (with_reducible refine Below.alloc ?_ ?_ _) | (with_reducible refine Below.drew ?_) | (with_reducible refine below_drewN ?_ _) | (with_reducible refine Below.setCell ?_ ?_ _) | (with_reducible refine chain ?_ (by assumption) ?_) | omega | (simp; done) | (simp; omega)))

set_option maxRecDepth 100000 in
set_option maxHeartbeats 4000000 in
theorem zm {r c n : Nat} {w : World} (hn : (r : Int) * (c : Int) = (n : Int)) (hb : n ≤ 1024) :
    Calls Try.prog 96 #[.int .i64 (r : Int), .int .i64 (c : Int)] w fun ee w' => ∃ g, ee = .returned (mv (r : Int) (c : Int) (some ⟨g, 0, none⟩) n n) ∧ Bk w' g 99 (List.replicate n z5) ∧ w.heap.size ≤ g ∧ Below w.heap.size w w' := by
  have hmk := mkD n (by omega)
  have e2 : IntKind.i64.wrap (n : Int) = (n : Int) := IntWalk.i64_in _ (by omega)
  go_enter Try.func96, Try.ntmps96
  go_wp2_with (fail)
  refine bodyPost_ret (v := mv (r : Int) (c : Int) (some ⟨w.heap.size + 1, 0, none⟩) n n) (by first | (simp [results, Try.results96, go_sem, *]; done) | (simp (disch := (first | omega | (simp; done) | (simp; omega))) [results, Try.results96, go_sem, *]; done)) rfl ⟨_, rfl, ?_, by omega, ?_⟩
  · exact Bk.made' (by simp)
  · (repeat' (first | (with_reducible exact Below.refl _ _) | (with_reducible assumption) | (with_reducible refine Below.alloc ?_ ?_ _) | (with_reducible refine Below.drew ?_) | (with_reducible refine below_drewN ?_ _) | (with_reducible refine Below.setCell ?_ ?_ _) | (with_reducible refine chain ?_ (by assumption) ?_) | omega | (simp; done) | (simp; omega)))

end Go.Proofs.Ytofclfgaekjonaa
namespace Go.Proofs.Ytofclfgaekjonaa
open Go.RowKit RM
set_option linter.unusedVariables false
set_option linter.unusedSimpArgs false
attribute [local irreducible] World.setCell

theorem append_ok {n : Nat} (h : n ≤ 1048576) : n + 1 ≤ maxLen ∧ (n + 1) * 40 ≤ 140737488355328 := by unfold maxLen; omega
theorem okM_nat {r c : Int} {n : Nat} {xs : List D5} (h : okM r c n xs = true) : ∃ R C : Nat, r = (R : Int) ∧ c = (C : Int) ∧ n = R * C ∧ 1 ≤ R ∧ R ≤ 32 ∧ 1 ≤ C ∧ C ≤ 32 ∧ n ≤ 1024 := by
  obtain ⟨h1, h2, h3, _⟩ := okM_iff.1 h
  obtain ⟨r0, r1, c0, c1, p0, p1⟩ := prod_bd h1 h2
  refine ⟨r.toNat, c.toNat, by omega, by omega, ?_, by omega, by omega, by omega, by omega, by omega⟩
  have : ((r.toNat * c.toNat : Nat) : Int) = r * c := by rw [Int.natCast_mul, Int.toNat_of_nonneg (by omega), Int.toNat_of_nonneg (by omega)]
  omega

end Go.Proofs.Ytofclfgaekjonaa
namespace Go.Proofs.Ytofclfgaekjonaa
open Go.RowKit RM
set_option linter.unusedVariables false
set_option linter.unusedSimpArgs false
attribute [local irreducible] World.setCell

/-- does any of the first j fail? -/
def anyB (j : Nat) (G : Nat → Bool) : Bool := (List.range j).any G
theorem anyB_0 (G : Nat → Bool) : anyB 0 G = false := rfl
theorem anyB_succ (j : Nat) (G : Nat → Bool) : anyB (j + 1) G = (anyB j G || G j) := by
  unfold anyB; rw [List.range_succ, List.any_append]; simp
theorem anyB_get {j q : Nat} {G : Nat → Bool} (h : anyB j G = false) (hq : q < j) : G q = false := by
  unfold anyB at h
  have := List.any_eq_false.1 h q (List.mem_range.2 hq)
  simpa using this
theorem anyB_of {j q : Nat} {G : Nat → Bool} (hq : q < j) (h : G q = true) : anyB j G = true := by
  cases hh : anyB j G
  · rw [anyB_get hh hq] at h; cases h
  · rfl
theorem anyB_f {j : Nat} {G : Nat → Bool} (h : ∀ q, q < j → G q = false) : anyB j G = false := by
  cases hh : anyB j G
  · rfl
  · unfold anyB at hh
    obtain ⟨q, hq, hg⟩ := List.any_eq_true.1 hh
    rw [h q (List.mem_range.1 hq)] at hg; cases hg
/-- what a model's function of matrices answers: nothing if a computation failed -/
def MR (w w' : World) (ee : Ending) (r c : Int) (n : Nat) (zs : List D5) (bad : Bool) : Prop :=
  (bad = true → ee = .returned (mt 0 0 none 0 0 false)) ∧ (bad = false → ∃ B cq, ee = .returned (mt r c B n cq true) ∧ Rd w' B zs ∧ (∀ a, B = some a → w.heap.size ≤ a.block)) ∧ Below w.heap.size w w'
/-- the state of a loop that appends what may fail: the failure so far, the numbers so far -/
def Sofar (z : Bool) (zs : List D5) (j : Nat) (F : Nat → D5) (G : Nat → Bool) : Prop := zs.length = j ∧ z = anyB j G ∧ (z = false → zs = tab j F)
theorem Sofar.start (F : Nat → D5) (G : Nat → Bool) : Sofar false [] 0 F G := ⟨rfl, rfl, fun _ => rfl⟩
theorem Sofar.next {z : Bool} {zs : List D5} {j : Nat} {F : Nat → D5} {G : Nat → Bool} {r : D5 × Bool} (h : Sofar z zs j F G) (h1 : z = false → r = (F j, G j)) (h2 : z = true → r.2 = true) : Sofar r.2 (zs ++ [r.1]) (j + 1) F G := by
  obtain ⟨hl, hz, hs⟩ := h
  refine ⟨by simp [hl], ?_, ?_⟩
  · rw [anyB_succ, ← hz]
    cases z
    · rw [h1 rfl]; rfl
    · rw [h2 rfl]; rfl
  · intro hr
    cases z
    · rw [h1 rfl, tab_succ, hs rfl]
    · rw [h2 rfl] at hr; cases hr
theorem kbad {a b : World} {g o k i : Nat} {u v : Value} (hb : Below a.heap.size (a.setCell ⟨g, o, none⟩ u) b) (hne : g ≠ k) (h : a.cell? ⟨k, i, none⟩ = some v) : b.cell? ⟨k, i, none⟩ = some v := by
  have h1 : (a.setCell ⟨g, o, none⟩ u).cell? ⟨k, i, none⟩ = some v := by rw [World.cell?_setCell_far _ _ _ _ hne, h]
  exact (hb.cell (p := ⟨k, i, none⟩) (World.block_lt_of_cell? a _ h)).trans h1
theorem Own5.badly {W W' : World} {base g o : Nat} {t : TypeId} {v u : Value} {xs : List D5} (h : Own5 W base t v xs) (hb : Below W.heap.size (W.setCell ⟨g, o, none⟩ u) W') (hg : g < base) : Own5 W' base t v xs :=
  (h.far (p := ⟨g, o, none⟩) hg u).mono (by rw [World.size_setCell]; exact hb)
theorem bad_below {W W' w : World} {g o : Nat} {u : Value} (hB : Below w.heap.size w W) (hb : Below W.heap.size (W.setCell ⟨g, o, none⟩ u) W') (hg : w.heap.size ≤ g) : Below w.heap.size w W' :=
  chain (hB.setCell (p := ⟨g, o, none⟩) hg u) hb hB.size
theorem bad_size {W W' : World} {g o : Nat} {u : Value} (hb : Below W.heap.size (W.setCell ⟨g, o, none⟩ u) W') : W.heap.size ≤ W'.heap.size := by
  have := hb.size; rwa [World.size_setCell] at this
theorem bad_drew {W W' : World} {g o : Nat} {u : Value} (hb : Below W.drew.heap.size (W.drew.setCell ⟨g, o, none⟩ u) W') : Below W.heap.size (W.setCell ⟨g, o, none⟩ u) W' := by
  rw [World.setCell_drew] at hb
  exact ⟨hb.os, hb.tape, hb.output, hb.size, hb.block⟩

set_option maxRecDepth 100000 in
set_option maxHeartbeats 2000000 in
theorem cmat_t {r c : Int} {A : Option Addr} {n cp g : Nat} {w : World} (h0 : w.cell? ⟨g, 0, none⟩ = some (.bool true)) :
    Calls Try.prog 113 #[.pointer (some ⟨g, 0, none⟩), mv r c A n cp] w fun ee w' => ee = .returned (mt 0 0 none 0 0 false) ∧ Below w.heap.size w w' := by
  have hg := World.block_lt_of_cell? w _ h0
  have hg1 : g < w.heap.size := hg
  have hg2 : g < w.heap.size + 1 := by omega
  go_enter Try.func113, Try.ntmps113
  go_wp2_with (fail)
  refine bodyPost_ret (v := mt 0 0 none 0 0 false) (by first | (simp [results, Try.results113, go_sem, *]; done) | (simp (disch := (first | omega | (simp; done) | (simp; omega))) [results, Try.results113, go_sem, *]; done) | (simp only [results, Try.results113]; go_simp; done)) rfl ⟨rfl, ?_⟩
  (repeat' (first | (with_reducible exact Below.refl _ _) | (with_reducible assumption) | (with_reducible refine Below.alloc ?_ ?_ _) | (with_reducible refine Below.drew ?_) | (with_reducible refine below_drewN ?_ _) | (with_reducible refine Below.setCell ?_ ?_ _) | (with_reducible refine chain ?_ (by assumption) ?_) | omega | (simp; done) | (simp; omega)))

set_option maxRecDepth 100000 in
set_option maxHeartbeats 2000000 in
theorem cmat_f {r c : Int} {A : Option Addr} {n cp g : Nat} {w : World} (h0 : w.cell? ⟨g, 0, none⟩ = some (.bool false)) :
    Calls Try.prog 113 #[.pointer (some ⟨g, 0, none⟩), mv r c A n cp] w fun ee w' => ee = .returned (mt r c A n cp true) ∧ Below w.heap.size w w' := by
  have hg := World.block_lt_of_cell? w _ h0
  have hg1 : g < w.heap.size := hg
  have hg2 : g < w.heap.size + 1 := by omega
  go_enter Try.func113, Try.ntmps113
  go_wp2_with (fail)
  refine bodyPost_ret (v := mt r c A n cp true) (by first | (simp [results, Try.results113, go_sem, *]; done) | (simp (disch := (first | omega | (simp; done) | (simp; omega))) [results, Try.results113, go_sem, *]; done) | (simp only [results, Try.results113]; go_simp; done)) rfl ⟨rfl, ?_⟩
  (repeat' (first | (with_reducible exact Below.refl _ _) | (with_reducible assumption) | (with_reducible refine Below.alloc ?_ ?_ _) | (with_reducible refine Below.drew ?_) | (with_reducible refine below_drewN ?_ _) | (with_reducible refine Below.setCell ?_ ?_ _) | (with_reducible refine chain ?_ (by assumption) ?_) | omega | (simp; done) | (simp; omega)))

end Go.Proofs.Ytofclfgaekjonaa
namespace Go.Proofs.Ytofclfgaekjonaa
open Go.RowKit RM
set_option linter.unusedVariables false
set_option linter.unusedSimpArgs false
attribute [local irreducible] World.setCell

theorem okM_nat2 {R C n : Nat} {xs : List D5} (h : okM (R : Int) (C : Int) n xs = true) : n = R * C ∧ 1 ≤ R ∧ R ≤ 32 ∧ 1 ≤ C ∧ C ≤ 32 ∧ n ≤ 1024 := by
  obtain ⟨R', C', e1, e2, hnn, h1, h2, h3, h4, h5⟩ := okM_nat h
  obtain rfl : R = R' := by omega
  obtain rfl : C = C' := by omega
  exact ⟨hnn, h1, h2, h3, h4, h5⟩
/-- a row of a matrix: where it begins, where it ends -/
theorem row_at {R C n i : Nat} (hnn : n = R * C) (hi : i < R) : ∃ s : Nat, (i : Int) * (C : Int) = (s : Int) ∧ ((i : Int) + 1) * (C : Int) = ((s + C : Nat) : Int) ∧ s + C ≤ n ∧ s = i * C := by
  refine ⟨i * C, by simp, by rw [Int.natCast_add, Int.natCast_mul, Int.add_mul, Int.one_mul], ?_, rfl⟩
  have h1 : (i + 1) * C ≤ R * C := Nat.mul_le_mul_right C hi
  rw [Nat.add_mul, Nat.one_mul, ← hnn] at h1
  exact h1
theorem Rd.cx {W : World} {g q : Nat} {xs : List D5} {x : D5} (h : Rd W (some ⟨g, 0, none⟩) xs) (hx : xs[q]? = some x) : Cx W g (q * 5) x := by
  obtain ⟨g', o, e, hc⟩ := h q x hx
  simp only [Option.some.injEq, Addr.mk.injEq, and_true] at e
  obtain ⟨rfl, rfl⟩ := e
  rw [Nat.zero_add] at hc
  exact hc

end Go.Proofs.Ytofclfgaekjonaa
namespace Go.Proofs.Ytofclfgaekjonaa
open Go.RowKit
theorem kst3 {a : World} {g k o : Nat} {v v0 v1 v2 : Value} (hne : g ≠ k) (h : a.cell? ⟨k, o, none⟩ = some v) : (((a.setCell ⟨g, 0, none⟩ v0).setCell ⟨g, 1, none⟩ v1).setCell ⟨g, 2, none⟩ v2).cell? ⟨k, o, none⟩ = some v := by
  rw [World.cell?_setCell_far _ _ _ _ hne, World.cell?_setCell_far _ _ _ _ hne, World.cell?_setCell_far _ _ _ _ hne, h]
/-- what the slots hold and what the world holds -/
def CutG (R : Prop) (P : Prop) : Prop := R ∧ P
end Go.Proofs.Ytofclfgaekjonaa
namespace Go.Proofs.Ytofclfgaekjonaa
open Go.RowKit RM
set_option linter.unusedVariables false
set_option linter.unusedSimpArgs false
attribute [local irreducible] World.setCell

def TR (w w' : World) (ee : Ending) (p : D5 × Bool) : Prop :=
  (p.2 = true → ee = .returned (dt 0 0 0 0 0 false)) ∧ (p.2 = false → ee = .returned (dt p.1.a p.1.b p.1.c p.1.d p.1.e true)) ∧ Below w.heap.size w w'
theorem TR.t {w w' : World} {p : D5 × Bool} {s : D5} (h : p = (s, false)) (hb : Below w.heap.size w w') : TR w w' (.returned (dt s.a s.b s.c s.d s.e true)) p := by
  subst h; exact ⟨fun h => (by cases h), fun _ => rfl, hb⟩
theorem TR.f {w w' : World} {p : D5 × Bool} (h : p.2 = true) (hb : Below w.heap.size w w') : TR w w' (.returned (dt 0 0 0 0 0 false)) p :=
  ⟨fun _ => rfl, fun k => (by rw [h] at k; cases k), hb⟩
theorem Bx.set5 {W : World} {b : Nat} {t : TypeId} {x : D5} (y : D5) (h : Bx W b t #[.int .i64 x.a, .int .i64 x.b, .int .i64 x.c, .int .i64 x.d, .int .i64 x.e]) : Bx (Go.Proofs.Ytofclfgaekjonaa.set5 W b 0 y) b t #[.int .i64 y.a, .int .i64 y.b, .int .i64 y.c, .int .i64 y.d, .int .i64 y.e] :=
  ((((h.set (i := 0) (u := .int .i64 y.a) rfl).set (i := 0 + 1) (u := .int .i64 y.b) rfl).set (i := 0 + 2) (u := .int .i64 y.c) rfl).set (i := 0 + 3) (u := .int .i64 y.d) rfl).set (i := 0 + 4) (u := .int .i64 y.e) rfl
theorem Bx.far5 {W : World} {b g o : Nat} {t : TypeId} {cs : Array Value} (y : D5) (h : Bx W b t cs) (hp : b ≠ g) : Bx (Go.Proofs.Ytofclfgaekjonaa.set5 W g o y) b t cs :=
  (set5_far hp).trans h

end Go.Proofs.Ytofclfgaekjonaa
namespace Go.Proofs.Ytofclfgaekjonaa
open Go.RowKit RM
set_option linter.unusedVariables false
set_option linter.unusedSimpArgs false
attribute [local irreducible] World.setCell

open GM
/-- the model's matrix of a gate -/
def gsF (n D kd A B q : Nat) : D5 := cellC (gS n kd A B (q / D) (q % D))
end Go.Proofs.Ytofclfgaekjonaa
