/- Ph1 -/
import Derived.Test.YtofclfgaekjonaaZp13
import Derived.Test.YtofclfgaekjonaaZp32
import Derived.Test.YtofclfgaekjonaaZp20
import Derived.Test.YtofclfgaekjonaaZp14
import Derived.Test.YtofclfgaekjonaaZp18
namespace Go.Proofs.Ytofclfgaekjonaa
open Go.RowKit RM
set_option linter.unusedVariables false
set_option linter.unusedSimpArgs false
attribute [local irreducible] World.setCell

/-- the numbers of which one is not the other turned -/
def neB (k : Nat) (xs ys : List D5) (i : Nat) : Bool := !((xs.getD i z5).beq (turn k (ys.getD i z5)))
/-- what a test answers: no where bad -/
def EF (w w' : World) (ee : Ending) (bad : Bool) : Prop := (bad = true → ee = .returned (.bool false)) ∧ (bad = false → ee = .returned (.bool true)) ∧ Below w.heap.size w w'
theorem neB_f {k i : Nat} {xs ys : List D5} {x y : D5} (hx : xs[i]? = some x) (hy : ys[i]? = some y) (h : x = turn k y) : neB k xs ys i = false := by
  unfold neB; rw [getD_of hx, getD_of hy, ← h, beq_iff5.2 rfl]; rfl
theorem neB_t {k i : Nat} {xs ys : List D5} {x y : D5} (hx : xs[i]? = some x) (hy : ys[i]? = some y) (h : x ≠ turn k y) : neB k xs ys i = true := by
  unfold neB; rw [getD_of hx, getD_of hy]
  cases hq : x.beq (turn k y)
  · rfl
  · exact absurd (beq_iff5.1 hq) h
theorem undrewE {W W' : World} (h : Below W.drew.heap.size W.drew W') : Below W.heap.size W W' := ⟨h.os, h.tape, h.output, h.size, h.block⟩

theorem eqlq_t {x y : D5} (h : x = y) (w : World) : (binOp .eql 99 x.v y.v).run Try.prog w = .ok (.bool true) w := by
  subst h
  exact run_eqlD _ _ _ _ _ _ _ _ _ _ true w (by rw [eqv5]; simp)
set_option maxRecDepth 100000 in
set_option maxHeartbeats 4000000 in
theorem cl_t {x y : D5} {k gp : Nat} {w : World} (hk : k < 8) (hy : y.ok = true) (hp : Bx w gp 99 #[.int .i64 (omP k).a, .int .i64 (omP k).b, .int .i64 (omP k).c, .int .i64 (omP k).d, .int .i64 (omP k).e]) (h : x = turn k y) :
    Calls Try.prog 164 #[x.v, y.v, .pointer (some ⟨gp, 0, none⟩)] w fun ee w' => ee = .returned (.bool true) ∧ Below w.heap.size w w' := by
  have hop := fun w => eqlq_t h w
  have HY := hid hy
  have HK := hid hk
  have HM := hid (mulS_om hk hy)
  have c0 := hp.c 0 rfl
  have c1 := hp.c 1 rfl
  have c2 := hp.c 2 rfl
  have c3 := hp.c 3 rfl
  have c4 := hp.c 4 rfl
  have lp := hp.lt
  clear hy hk h hp
  go_enter Try.func164, Try.ntmps164
  go_wp2_with (fail)
  refine (imul_t (x := y) (y := omP k) HY.out (omP_ok HK.out) (by rw [HM.out]) _).mono ?_
  rintro ee w1 ⟨rfl, hb1⟩
  obtain ⟨hc1, hf1, _⟩ := bcell hb1; have hz1 := hb1.size; (try simp at hz1); (try have hx10 : w.heap.size < w1.heap.size := (by omega)); (try have hx11 : w.heap.size + 1 < w1.heap.size := (by omega)); (try have hx12 : w.heap.size + 1 + 1 < w1.heap.size := (by omega)); (try have hx13 : w.heap.size + 1 + 1 + 1 < w1.heap.size := (by omega))
  have e0 : (mulS false y (omP k)).1.a = (turn k y).a := by rw [HM.out]
  have e1 : (mulS false y (omP k)).1.b = (turn k y).b := by rw [HM.out]
  have e2 : (mulS false y (omP k)).1.c = (turn k y).c := by rw [HM.out]
  have e3 : (mulS false y (omP k)).1.d = (turn k y).d := by rw [HM.out]
  have e4 : (mulS false y (omP k)).1.e = (turn k y).e := by rw [HM.out]
  go_wp2_with (fail)
  go_ret
  refine ⟨rfl, ?_⟩
  (repeat' (first | (with_reducible exact Below.refl _ _) | (with_reducible assumption) | (with_reducible refine Below.alloc ?_ ?_ _) | (with_reducible refine Below.drew ?_) | (with_reducible refine below_drewN ?_ _) | (with_reducible refine Below.setCell ?_ ?_ _) | (with_reducible refine chain ?_ (by assumption) ?_) | omega | (simp; done) | (simp; omega)))

set_option maxRecDepth 100000 in
set_option maxHeartbeats 4000000 in
theorem cl_f {x y : D5} {k gp : Nat} {w : World} (hk : k < 8) (hy : y.ok = true) (hp : Bx w gp 99 #[.int .i64 (omP k).a, .int .i64 (omP k).b, .int .i64 (omP k).c, .int .i64 (omP k).d, .int .i64 (omP k).e]) (h : x ≠ turn k y) :
    Calls Try.prog 164 #[x.v, y.v, .pointer (some ⟨gp, 0, none⟩)] w fun ee w' => ee = .returned (.bool false) ∧ Below w.heap.size w w' := by
  have hop := fun w => eql_f h w
  have HY := hid hy
  have HK := hid hk
  have HM := hid (mulS_om hk hy)
  have c0 := hp.c 0 rfl
  have c1 := hp.c 1 rfl
  have c2 := hp.c 2 rfl
  have c3 := hp.c 3 rfl
  have c4 := hp.c 4 rfl
  have lp := hp.lt
  clear hy hk h hp
  go_enter Try.func164, Try.ntmps164
  go_wp2_with (fail)
  refine (imul_t (x := y) (y := omP k) HY.out (omP_ok HK.out) (by rw [HM.out]) _).mono ?_
  rintro ee w1 ⟨rfl, hb1⟩
  obtain ⟨hc1, hf1, _⟩ := bcell hb1; have hz1 := hb1.size; (try simp at hz1); (try have hx10 : w.heap.size < w1.heap.size := (by omega)); (try have hx11 : w.heap.size + 1 < w1.heap.size := (by omega)); (try have hx12 : w.heap.size + 1 + 1 < w1.heap.size := (by omega)); (try have hx13 : w.heap.size + 1 + 1 + 1 < w1.heap.size := (by omega))
  have e0 : (mulS false y (omP k)).1.a = (turn k y).a := by rw [HM.out]
  have e1 : (mulS false y (omP k)).1.b = (turn k y).b := by rw [HM.out]
  have e2 : (mulS false y (omP k)).1.c = (turn k y).c := by rw [HM.out]
  have e3 : (mulS false y (omP k)).1.d = (turn k y).d := by rw [HM.out]
  have e4 : (mulS false y (omP k)).1.e = (turn k y).e := by rw [HM.out]
  go_wp2_with (fail)
  go_ret
  refine ⟨rfl, ?_⟩
  (repeat' (first | (with_reducible exact Below.refl _ _) | (with_reducible assumption) | (with_reducible refine Below.alloc ?_ ?_ _) | (with_reducible refine Below.drew ?_) | (with_reducible refine below_drewN ?_ _) | (with_reducible refine Below.setCell ?_ ?_ _) | (with_reducible refine chain ?_ (by assumption) ?_) | omega | (simp; done) | (simp; omega)))

set_option maxRecDepth 100000 in
set_option maxHeartbeats 4000000 in
theorem eqf {A B : Option Addr} {n c d k gp : Nat} {xs ys : List D5} {w : World} (hA : Rd w A xs) (hB : Rd w B ys) (hn : xs.length = n) (hm : ys.length = n) (hb : n ≤ 1048576) (hk : k < 8) (hy : allB ys = true) (hp : Bx w gp 99 #[.int .i64 (omP k).a, .int .i64 (omP k).b, .int .i64 (omP k).c, .int .i64 (omP k).d, .int .i64 (omP k).e]) :
    Calls Try.prog 165 #[.slice A n c, .slice B n d, (.func (.func 164) #[] #[.pointer (some ⟨gp, 0, none⟩)])] w fun ee w' => EF w w' ee (anyB n (neB k xs ys)) := by
  have HA := hid hA
  have HB := hid hB
  have HN := hid hn
  have HM := hid hm
  have HP := hid hp
  have HY := hid hy
  have HK := hid hk
  clear hA hB hn hm hp hy hk
  go_enter Try.func165, Try.ntmps165
  go_wp2_with (fail)
  go_loopg [17] n (fun q s1 wr => ∃ j : Nat, j + q = n ∧ s1 = .int .i64 (j : Int) ∧ Hid (∀ i, i < j → neB k xs ys i = false) ∧ Below w.heap.size w wr)
  case atStart => exact ⟨0, by omega, rfl, fun i hi => absurd hi (Nat.not_lt_zero i), Below.refl _ _⟩
  case round =>
    obtain ⟨j, hj, rfl, HJ, hB⟩ := hrel
    cases gk with
    | zero =>
      obtain rfl : j = n := by omega
      go_wp2_with (fail)
      go_ret
      refine ⟨fun h => ?_, fun _ => rfl, hB⟩
      rw [anyB_f HJ.out] at h; cases h
    | succ m =>
      have hlt : j < n := by omega
      have j1 : (j : Int) < (n : Int) := by omega
      have hBq := hB.size
      obtain ⟨x, hx⟩ : ∃ x, xs[j]? = some x := ⟨_, List.getElem?_eq_getElem (by rw [HN.out]; exact hlt)⟩
      obtain ⟨y, hy⟩ : ∃ y, ys[j]? = some y := ⟨_, List.getElem?_eq_getElem (by rw [HM.out]; exact hlt)⟩
      obtain ⟨g, o, rfl, hC⟩ := HA.out j x hx
      obtain ⟨g', o', rfl, hC'⟩ := HB.out j y hy
      have HKy := hid (all_get HY.out hy)
      have HX := hid hx
      have HYj := hid hy
      clear hx hy
      obtain ⟨q0, q1, q2, q3, q4⟩ := hC.at_ (hB.block g hC.lt)
      obtain ⟨p0, p1, p2, p3, p4⟩ := hC'.at_ (hB.block g' hC'.lt)
      have lq := World.block_lt_of_cell? _ _ q0
      have lp := World.block_lt_of_cell? _ _ p0
      (try dsimp only at lq lp)
      clear hC hC'
      go_wp2_with (fail)
      by_cases hxy : x = turn k y
      · have HXY := hid hxy
        clear hxy
        refine (cl_t (x := x) (y := y) HK.out HKy.out ?_ HXY.out).mono ?_
        · exact HP.out.mono (by (repeat' (first | (with_reducible exact Below.refl _ _) | (with_reducible assumption) | (with_reducible refine Below.alloc ?_ ?_ _) | (with_reducible refine Below.drew ?_) | (with_reducible refine below_drewN ?_ _) | (with_reducible refine Below.setCell ?_ ?_ _) | (with_reducible refine chain ?_ (by assumption) ?_) | omega | (simp; done) | (simp; omega))))
        rintro ee w1 ⟨rfl, hb1⟩
        have hz1 := hb1.size
        (try simp only [World.size_alloc] at hz1)
        have hB1 : Below w.heap.size w w1 := by (repeat' (first | (with_reducible exact Below.refl _ _) | (with_reducible assumption) | (with_reducible refine Below.alloc ?_ ?_ _) | (with_reducible refine Below.drew ?_) | (with_reducible refine below_drewN ?_ _) | (with_reducible refine Below.setCell ?_ ?_ _) | (with_reducible refine chain ?_ (by assumption) ?_) | omega | (simp; done) | (simp; omega)))
        go_wp2_with (fail)
        go_roundg m
        case measure => omega
        case rel =>
          refine ⟨j + 1, by omega, by go_num, ?_, hB1⟩
          show ∀ i, i < j + 1 → _
          intro i hi
          by_cases e : i = j
          · subst e; exact neB_f HX.out HYj.out HXY.out
          · exact HJ.out i (by omega)
      · have HXY := hid hxy
        clear hxy
        refine (cl_f (x := x) (y := y) HK.out HKy.out ?_ HXY.out).mono ?_
        · exact HP.out.mono (by (repeat' (first | (with_reducible exact Below.refl _ _) | (with_reducible assumption) | (with_reducible refine Below.alloc ?_ ?_ _) | (with_reducible refine Below.drew ?_) | (with_reducible refine below_drewN ?_ _) | (with_reducible refine Below.setCell ?_ ?_ _) | (with_reducible refine chain ?_ (by assumption) ?_) | omega | (simp; done) | (simp; omega))))
        rintro ee w1 ⟨rfl, hb1⟩
        have hz1 := hb1.size
        (try simp only [World.size_alloc] at hz1)
        have hB1 : Below w.heap.size w w1 := by (repeat' (first | (with_reducible exact Below.refl _ _) | (with_reducible assumption) | (with_reducible refine Below.alloc ?_ ?_ _) | (with_reducible refine Below.drew ?_) | (with_reducible refine below_drewN ?_ _) | (with_reducible refine Below.setCell ?_ ?_ _) | (with_reducible refine chain ?_ (by assumption) ?_) | omega | (simp; done) | (simp; omega)))
        go_wp2_with (fail)
        go_ret
        refine ⟨fun _ => rfl, fun h => ?_, hB1⟩
        rw [anyB_of hlt (neB_t HX.out HYj.out HXY.out)] at h; cases h

set_option maxRecDepth 100000 in
set_option maxHeartbeats 4000000 in
theorem im_r {r c r' c' : Int} {A B : Option Addr} {n m cp cp' k : Nat} {w : World} (h : r ≠ r') :
    Calls Try.prog 121 #[mv r c A n cp, mv r' c' B m cp', (omP k).v] w fun ee w' => ee = .returned (.bool false) ∧ Below w.heap.size w w' := by
  have h1 : (r == r') = false := by simpa using h
  have h2 : (r != r') = true := by simpa using h
  clear h
  go_enter Try.func121, Try.ntmps121
  go_wp2_with (fail)
  go_ret
  refine ⟨rfl, ?_⟩
  (repeat' (first | (with_reducible exact Below.refl _ _) | (with_reducible assumption) | (with_reducible refine Below.alloc ?_ ?_ _) | (with_reducible refine Below.drew ?_) | (with_reducible refine below_drewN ?_ _) | (with_reducible refine Below.setCell ?_ ?_ _) | (with_reducible refine chain ?_ (by assumption) ?_) | omega | (simp; done) | (simp; omega)))

set_option maxRecDepth 100000 in
set_option maxHeartbeats 4000000 in
theorem im_c {r c r' c' : Int} {A B : Option Addr} {n m cp cp' k : Nat} {w : World} (h0 : r = r') (h : c ≠ c') :
    Calls Try.prog 121 #[mv r c A n cp, mv r' c' B m cp', (omP k).v] w fun ee w' => ee = .returned (.bool false) ∧ Below w.heap.size w w' := by
  subst h0
  have h1 : (c == c') = false := by simpa using h
  have h2 : (c != c') = true := by simpa using h
  clear h
  go_enter Try.func121, Try.ntmps121
  go_wp2_with (fail)
  go_ret
  refine ⟨rfl, ?_⟩
  (repeat' (first | (with_reducible exact Below.refl _ _) | (with_reducible assumption) | (with_reducible refine Below.alloc ?_ ?_ _) | (with_reducible refine Below.drew ?_) | (with_reducible refine below_drewN ?_ _) | (with_reducible refine Below.setCell ?_ ?_ _) | (with_reducible refine chain ?_ (by assumption) ?_) | omega | (simp; done) | (simp; omega)))

set_option maxRecDepth 100000 in
set_option maxHeartbeats 4000000 in
theorem im_l {r c : Int} {A B : Option Addr} {n cp cp' k : Nat} {xs ys : List D5} {w : World} (hA : Rd w A xs) (hB : Rd w B ys) (hn : xs.length = n) (hm : ys.length = n) (hb : n ≤ 1048576) (hk : k < 8) (hy : allB ys = true) :
    Calls Try.prog 121 #[mv r c A n cp, mv r c B n cp', (omP k).v] w fun ee w' => EF w w' ee (anyB n (neB k xs ys)) := by
  have HA := hid hA
  have HB := hid hB
  have HN := hid hn
  have HM := hid hm
  have HY := hid hy
  have HK := hid hk
  clear hA hB hn hm hy hk
  go_enter Try.func121, Try.ntmps121
  go_wp2_with (fail)
  refine (eqf (gp := w.heap.size + 1 + 1) (k := k) (xs := xs) (ys := ys) ?_ ?_ HN.out HM.out hb HK.out HY.out ?_).mono ?_
  · exact HA.out.mono (by (repeat' (first | (with_reducible exact Below.refl _ _) | (with_reducible assumption) | (with_reducible refine Below.alloc ?_ ?_ _) | (with_reducible refine Below.drew ?_) | (with_reducible refine below_drewN ?_ _) | (with_reducible refine Below.setCell ?_ ?_ _) | (with_reducible refine chain ?_ (by assumption) ?_) | omega | (simp; done) | (simp; omega))))
  · exact HB.out.mono (by (repeat' (first | (with_reducible exact Below.refl _ _) | (with_reducible assumption) | (with_reducible refine Below.alloc ?_ ?_ _) | (with_reducible refine Below.drew ?_) | (with_reducible refine below_drewN ?_ _) | (with_reducible refine Below.setCell ?_ ?_ _) | (with_reducible refine chain ?_ (by assumption) ?_) | omega | (simp; done) | (simp; omega))))
  · exact Bx.new (by simp)
  rintro ee w1 ⟨h1, h2, hb1⟩
  have hB1 : Below w.heap.size w w1 := by (repeat' (first | (with_reducible exact Below.refl _ _) | (with_reducible assumption) | (with_reducible refine Below.alloc ?_ ?_ _) | (with_reducible refine Below.drew ?_) | (with_reducible refine below_drewN ?_ _) | (with_reducible refine Below.setCell ?_ ?_ _) | (with_reducible refine chain ?_ (by assumption) ?_) | omega | (simp; done) | (simp; omega)))
  cases hq : anyB n (neB k xs ys)
  · obtain rfl := h2 hq
    have HQ := hid hq
    clear hq h1 h2
    go_wp2_with (fail)
    go_ret
    refine ⟨fun h => ?_, fun _ => rfl, hB1⟩
    rw [HQ.out] at h; cases h
  · obtain rfl := h1 hq
    have HQ := hid hq
    clear hq h1 h2
    go_wp2_with (fail)
    go_ret
    refine ⟨fun _ => rfl, fun h => ?_, hB1⟩
    rw [HQ.out] at h; cases h

/-- not a multiple by this power -/
def badK (r c r' c' : Int) (n : Nat) (xs ys : List D5) (k : Nat) : Bool := r != r' || (c != c' || anyB n (neB k xs ys))
theorem im {r c r' c' : Int} {A B : Option Addr} {n m cp cp' k : Nat} {xs ys : List D5} {w : World} (hA : Rd w A xs) (hB : Rd w B ys) (hn : xs.length = n) (hm : ys.length = m) (hb : n ≤ 1048576) (hd : r = r' → c = c' → n = m) (hk : k < 8) (hy : allB ys = true) :
    Calls Try.prog 121 #[mv r c A n cp, mv r' c' B m cp', (omP k).v] w fun ee w' => EF w w' ee (badK r c r' c' n xs ys k) := by
  by_cases hr : r = r'
  · by_cases hc : c = c'
    · subst hr hc
      obtain rfl := hd rfl rfl
      refine (im_l hA hB hn hm hb hk hy).mono fun ee w' h => ?_
      unfold badK
      rw [show (r != r) = false by simp, show (c != c) = false by simp, Bool.false_or, Bool.false_or]
      exact h
    · refine (im_c hr hc).mono fun ee w' h => ⟨fun _ => h.1, fun h2 => ?_, h.2⟩
      unfold badK at h2
      rw [show (c != c') = true by simpa using hc] at h2
      simp at h2
  · refine (im_r hr).mono fun ee w' h => ⟨fun _ => h.1, fun h2 => ?_, h.2⟩
    unfold badK at h2
    rw [show (r != r') = true by simpa using hr] at h2
    simp at h2

end Go.Proofs.Ytofclfgaekjonaa
