/- SRow, KrD, KrI, KrS, KrJ, MuS, MuM, MuI, LwMc, MuL, UnM -/
import Derived.Test.YtncgccpkbneagaaZar
import Derived.Deep.CutBlock
import Derived.Test.YtncgccpkbneagaaVm2
import Derived.Test.YtncgccpkbneagaaZtab
namespace Go.Proofs.Ytncgccpkbneagaa
open Go.RowKit RM
set_option linter.unusedVariables false
set_option linter.unusedSimpArgs false
attribute [local irreducible] World.setCell

/-- a row of products: what has been scaled so far -/
def mulP (f : Nat → D5) (x : D5) (k j q : Nat) : D5 := if k ≤ q ∧ q < k + j then (mulS false x (f q)).1 else f q
def mulH (f : Nat → D5) (x : D5) (k i : Nat) : Bool := (mulS false x (f (k + i))).2
theorem mulP_0 (f : Nat → D5) (x : D5) (k N : Nat) : tab N (mulP f x k 0) = tab N f := tab_congr (fun q _ => by unfold mulP; rw [if_neg (by omega)])
theorem mulP_at (f : Nat → D5) (x : D5) (k j : Nat) : mulP f x k j (k + j) = f (k + j) := by unfold mulP; rw [if_neg (by omega)]
theorem mulP_set {f : Nat → D5} {x : D5} {k j N : Nat} (h : k + j < N) : (tab N (mulP f x k j)).set (k + j) (mulS false x (f (k + j))).1 = tab N (mulP f x k (j + 1)) := by
  rw [tab_set h]
  refine tab_congr (fun q _ => ?_)
  unfold mulP
  by_cases e : q = k + j
  · subst e
    rw [if_pos rfl, if_pos (by omega)]
  · rw [if_neg e]
    by_cases e2 : k ≤ q ∧ q < k + j
    · rw [if_pos e2, if_pos (by omega)]
    · rw [if_neg e2, if_neg (by omega)]

theorem one5_off {x : D5} (h0 : x.a = 1) (h1 : x.b = 0) (h2 : x.c = 0) (h3 : x.d = 0) (h4 : x.e = 0) : x = one5 := by
  obtain ⟨a, b, c, d, e⟩ := x
  dsimp only at h0 h1 h2 h3 h4
  subst h0 h1 h2 h3 h4; rfl

set_option maxRecDepth 100000 in
set_option maxHeartbeats 8000000 in
theorem srow {g k m cs N : Nat} {f : Nat → D5} {x : D5} {w : World} (hG : Bk w g 37 (tab N f)) (hk : k + m ≤ N) (hN : N ≤ 1024) (hcs : m ≤ cs) (hcs2 : cs ≤ 1048576) (ho1 : ∀ i, i < m → (f (k + i)).ok = true) (ho2 : x.ok = true) :
    Calls Try.prog 72 #[.slice (some ⟨g, k * 5, none⟩) m cs, x.v] w fun ee w' => AR w w' ee g (tab N (mulP f x k m)) (anyB m (mulH f x k)) := by
  have HG := hid hG
  have HO1 := hid ho1
  have HO2 := hid ho2
  have lg := hG.lt
  clear hG ho1 ho2
  go_enter Try.func72, Try.ntmps72
  go_upto_region 1 with (fail)
  obtain ⟨W, hW⟩ : ∃ W : World, W = w.alloc (.cells #[.int .i64 x.a, .int .i64 x.b, .int .i64 x.c, .int .i64 x.d, .int .i64 x.e] 37) := ⟨_, rfl⟩
  have hbW : Below w.heap.size w W := by rw [hW]; exact (Below.refl _ _).alloc (Nat.le_refl _) _
  have XW : Bx W w.heap.size 37 #[.int .i64 x.a, .int .i64 x.b, .int .i64 x.c, .int .i64 x.d, .int .i64 x.e] := by rw [hW]; exact Bx.new rfl
  have hzW : w.heap.size < W.heap.size := by rw [hW]; simp
  rw [← hW]
  clear hW
  have HGW := hid (HG.out.mono hbW)
  have XWH := hid XW
  have HBW := hid hbW
  have d0 := XW.c 0 rfl
  have d1 := XW.c 1 rfl
  have d2 := XW.c 2 rfl
  have d3 := XW.c 3 rfl
  have d4 := XW.c 4 rfl
  clear XW hbW
  by_cases hx1 : x = one5
  · have z0 : W.cell? ⟨w.heap.size, 0, none⟩ = some (.int .i64 1) := by rw [d0, hx1]; rfl
    have z1 : W.cell? ⟨w.heap.size, 1, none⟩ = some (.int .i64 0) := by rw [d1, hx1]; rfl
    have z2 : W.cell? ⟨w.heap.size, 2, none⟩ = some (.int .i64 0) := by rw [d2, hx1]; rfl
    have z3 : W.cell? ⟨w.heap.size, 3, none⟩ = some (.int .i64 0) := by rw [d3, hx1]; rfl
    have z4 : W.cell? ⟨w.heap.size, 4, none⟩ = some (.int .i64 0) := by rw [d4, hx1]; rfl
    have HX1 := hid hx1
    clear d0 d1 d2 d3 d4 hx1
    go_wp2_with (fail)
    go_ret
    refine ⟨fun h => ?_, fun _ => ⟨rfl, ?_⟩, grown_below HBW.out⟩
    · rw [anyB_f (fun i hi => by unfold mulH; rw [HX1.out, mulS_one (HO1.out i hi)])] at h; cases h
    · have e : tab N (mulP f x k m) = tab N f := tab_congr (fun q hq => by
        unfold mulP
        by_cases e2 : k ≤ q ∧ q < k + m
        · rw [if_pos e2, HX1.out, mulS_one (by have := HO1.out (q - k) (by omega); rwa [show k + (q - k) = q by omega] at this)]
        · rw [if_neg e2])
      rw [e]; exact HGW.out
  have HX1 := hid hx1
  clear hx1
  go_cut [12] (fun s12 wx => s12 = .bool false ∧ wx = W)
  case first =>
    go_wp2_with (fail)
    all_goals go_meet
    all_goals first | exact ⟨rfl, rfl⟩ | exact absurd (one5_off (by assumption) (by assumption) (by assumption) (by assumption) (by assumption)) HX1.out
  obtain ⟨rfl, hq0⟩ := hcut
  have hq1 := hq0.symm
  subst hq1
  clear d0 d1 d2 d3 d4
  go_wp2_with (fail)
  go_loopg [15] m (fun q s1 wr => ∃ j : Nat, j + q = m ∧ s1 = .int .i64 (j : Int) ∧ Hid (Bx wr w.heap.size 37 #[.int .i64 x.a, .int .i64 x.b, .int .i64 x.c, .int .i64 x.d, .int .i64 x.e]) ∧ Hid (Bk wr g 37 (tab N (mulP f x k j))) ∧ Hid (∀ i, i < j → mulH f x k i = false) ∧ Hid (w.grownBy wr (some g)))
  case atStart => exact ⟨0, by omega, rfl, XWH, by show Bk _ _ _ _; rw [mulP_0]; exact HGW.out, fun i hi => absurd hi (Nat.not_lt_zero i), grown_below HBW.out⟩
  case round =>
    obtain ⟨j, hj, rfl, XX, HB, HH, HW⟩ := hrel
    have lx := XX.out.lt
    have hzw := HW.out.size
    cases gk with
    | zero =>
      obtain rfl : j = m := by omega
      go_wp2_with (fail)
      go_ret
      refine ⟨fun h => ?_, fun _ => ⟨rfl, HB.out⟩, HW.out⟩
      rw [anyB_f HH.out] at h; cases h
    | succ m2 =>
      have hlt : j < m := by omega
      have j1 : (j : Int) < (m : Int) := by omega
      have hG0 := HB.out.cx (k := k + j) (tab_get (by omega))
      rw [mulP_at] at hG0
      have HKy0 := HO1.out j hlt
      obtain ⟨y, hye⟩ : ∃ y, y = f (k + j) := ⟨_, rfl⟩
      rw [← hye] at hG0 HKy0
      have HYE := hid hye
      have HKy := hid HKy0
      obtain ⟨p0, p1, p2, p3, p4⟩ := hG0
      simp only [Nat.add_mul] at p0 p1 p2 p3 p4
      have c0 := XX.out.c 0 rfl
      have c1 := XX.out.c 1 rfl
      have c2 := XX.out.c 2 rfl
      have c3 := XX.out.c 3 rfl
      have c4 := XX.out.c 4 rfl
      clear hye HKy0
      cases hf : (mulS false x y).2
      · have HF := hid hf
        clear hf
        go_wp2_with (fail)
        refine (imul_t (x := x) (y := y) HO2.out HKy.out HF.out _).mono ?_
        rintro ee w8 ⟨rfl, hb8⟩
        have hW8 : Below wr.heap.size wr w8 := by (repeat' (first | (with_reducible exact Below.refl _ _) | (with_reducible assumption) | (with_reducible refine Below.alloc ?_ ?_ _) | (with_reducible refine Below.drew ?_) | (with_reducible refine below_drewN ?_ _) | (with_reducible refine Below.setCell ?_ ?_ _) | (with_reducible refine chain ?_ (by assumption) ?_) | omega | (simp; done) | (simp; omega)))
        have hz8 := hW8.size
        have hW9 : Hid (w.grownBy w8 (some g)) := grown_trans HW.out (grown_below hW8)
        have HB9 := hid (HB.out.mono hW8)
        have X9 := hid (XX.out.mono hW8)
        have lb9 := HB9.out.lt
        have fr9 := HB9.out.fr
        obtain ⟨r0, r1, r2, r3, r4⟩ := HB9.out.cx (k := k + j) (tab_get (by omega))
        simp only [Nat.add_mul] at r0 r1 r2 r3 r4
        go_wp2_with (fail)
        go_roundg m2
        case measure => omega
        case rel =>
          refine ⟨j + 1, by omega, by go_num, (X9.out.far5 (mulS false x y).1 (by omega)).alloc _, ?_, ?_, ?_⟩
          · show Bk _ _ _ _
            have h1 := HB9.out.set (k := k + j) (mulS false x y).1 (by rw [tab_len]; omega)
            rw [HYE.out, mulP_set (by omega), ← HYE.out, Nat.add_mul] at h1
            exact h1.alloc _
          · show ∀ i, i < j + 1 → _
            intro i hi
            by_cases e : i = j
            · subst e; unfold mulH; rw [← HYE.out, HF.out]
            · exact HH.out i (by omega)
          · exact grown_trans (grown_set5 (x := (mulS false x y).1) hW9.out) (grown_below ((Below.refl _ _).alloc (Nat.le_refl _) _))
      · have HF := hid hf
        clear hf
        go_wp2_with (fail)
        refine (imul_f (x := x) (y := y) HO2.out HKy.out HF.out _).mono ?_
        rintro ee w8 ⟨rfl, hb8⟩
        have hW8 : Below wr.heap.size wr w8 := by (repeat' (first | (with_reducible exact Below.refl _ _) | (with_reducible assumption) | (with_reducible refine Below.alloc ?_ ?_ _) | (with_reducible refine Below.drew ?_) | (with_reducible refine below_drewN ?_ _) | (with_reducible refine Below.setCell ?_ ?_ _) | (with_reducible refine chain ?_ (by assumption) ?_) | omega | (simp; done) | (simp; omega)))
        have hz8 := hW8.size
        have hW9 : Hid (w.grownBy w8 (some g)) := grown_trans HW.out (grown_below hW8)
        go_wp2_with (fail)
        go_ret
        refine ⟨fun _ => rfl, fun h => ?_, ?_⟩
        · have : mulH f x k j = true := by unfold mulH; rw [← HYE.out, HF.out]
          rw [anyB_of hlt this] at h; cases h
        · first | exact hW9.out | exact grown_trans hW9.out (grown_below ((Below.refl _ _).alloc (Nat.le_refl _) _))
end Go.Proofs.Ytncgccpkbneagaa
namespace Go.Proofs.Ytncgccpkbneagaa
open Go.RowKit RM
set_option linter.unusedVariables false
set_option linter.unusedSimpArgs false
attribute [local irreducible] World.setCell

theorem row_getD {ys : List D5} {s c r : Nat} (hr : r < c) : ((ys.drop s).take c).getD r z5 = ys.getD (s + r) z5 := by
  rw [List.getD_eq_getElem?_getD, List.getD_eq_getElem?_getD, List.getElem?_take_of_lt hr, List.getElem?_drop]
theorem divQ {Q i r : Nat} (h : r < Q) : (i * Q + r) / Q = i ∧ (i * Q + r) % Q = r := by
  have hQ : 0 < Q := by omega
  rw [Nat.add_comm, Nat.mul_comm]
  exact ⟨by rw [Nat.add_mul_div_left _ _ hQ, Nat.div_eq_of_lt h, Nat.zero_add], by rw [Nat.add_mul_mod_self_left, Nat.mod_eq_of_lt h]⟩
section
variable {P : Program} {ops : Array Oper} {o : Oper} {a : Act} {w : World} {K : Act → World → Prop} {Q : Exit → Act → World → Prop} {E : Prop}
end

end Go.Proofs.Ytncgccpkbneagaa
namespace Go.Proofs.Ytncgccpkbneagaa
open Go.RowKit RM
set_option linter.unusedVariables false
set_option linter.unusedSimpArgs false
attribute [local irreducible] World.setCell

end Go.Proofs.Ytncgccpkbneagaa
namespace Go.Proofs.Ytncgccpkbneagaa
open Go.RowKit RM
set_option linter.unusedVariables false
set_option linter.unusedSimpArgs false
attribute [local irreducible] World.setCell

theorem idx_lt {i j P Q : Nat} (hi : i < P) (hj : j < Q) : i * Q + j < P * Q := by
  have h1 : (i + 1) * Q ≤ P * Q := Nat.mul_le_mul_right Q hi
  rw [Nat.add_mul, Nat.one_mul] at h1; omega
/-- what the model's product holds -/
def KM (w w' : World) (ee : Ending) (gc P Q N : Nat) (F : Nat → D5) (G : Nat → Bool) : Prop := ∃ (z : Bool) (zs : List D5) (Bo : Option Addr) (cq : Nat), ee = .returned (mv (P : Int) (Q : Int) Bo N cq) ∧ Sofar z zs N F G ∧ Rd w' Bo zs ∧ (∀ a, Bo = some a → w.heap.size ≤ a.block) ∧ Below w.heap.size (w.setCell ⟨gc, 0, none⟩ (.bool z)) w'
theorem KM.i {w w' : World} {ee : Ending} {gc P Q N : Nat} {F : Nat → D5} {G : Nat → Bool} {z : Bool} {zs : List D5} {Bo : Option Addr} {cq : Nat} (h1 : ee = .returned (mv (P : Int) (Q : Int) Bo N cq)) (h2 : Sofar z zs N F G) (h3 : Rd w' Bo zs) (h4 : ∀ a, Bo = some a → w.heap.size ≤ a.block) (h5 : Below w.heap.size (w.setCell ⟨gc, 0, none⟩ (.bool z)) w') : KM w w' ee gc P Q N F G := ⟨z, zs, Bo, cq, h1, h2, h3, h4, h5⟩
end Go.Proofs.Ytncgccpkbneagaa
namespace Go.Proofs.Ytncgccpkbneagaa
open Go.RowKit RM
set_option linter.unusedVariables false
set_option linter.unusedSimpArgs false
attribute [local irreducible] World.setCell

end Go.Proofs.Ytncgccpkbneagaa
namespace Go.Proofs.Ytncgccpkbneagaa
open Go.RowKit RM
set_option linter.unusedVariables false
set_option linter.unusedSimpArgs false
attribute [local irreducible] World.setCell

/-- a cell of a product: the sum of the first k products, and whether one failed (z: one failed before) -/
def mmT (ca cb : Nat) (xs ys : List D5) (i j : Nat) (z : Bool) : Nat → D5 × Bool
  | 0 => (z5, z)
  | k + 1 => if (mmT ca cb xs ys i j z k).2 then mmT ca cb xs ys i j z k else addS (mulS false (xs.getD (i * ca + k) z5) (ys.getD (k * cb + j) z5)).2 (mmT ca cb xs ys i j z k).1 (mulS false (xs.getD (i * ca + k) z5) (ys.getD (k * cb + j) z5)).1
theorem mmT_stay {ca cb : Nat} {xs ys : List D5} {i j k q : Nat} {z : Bool} (h : (mmT ca cb xs ys i j z k).2 = true) : mmT ca cb xs ys i j z (k + q) = mmT ca cb xs ys i j z k := by
  induction q with
  | zero => rfl
  | succ q ih =>
    show (if (mmT ca cb xs ys i j z (k + q)).2 then mmT ca cb xs ys i j z (k + q) else _) = _
    rw [ih, if_pos h]
theorem mmT_end {ca cb : Nat} {xs ys : List D5} {i j k K : Nat} {z : Bool} {s : D5} (h : mmT ca cb xs ys i j z k = (s, true)) (hk : k ≤ K) : mmT ca cb xs ys i j z K = (s, true) := by
  obtain ⟨q, rfl⟩ := Nat.exists_eq_add_of_le hk
  rw [mmT_stay (by rw [h]), h]
theorem mmT_t {ca cb : Nat} {xs ys : List D5} {i j K : Nat} : (mmT ca cb xs ys i j true K).2 = true := by
  rw [mmT_end (k := 0) (s := z5) rfl (Nat.zero_le _)]
theorem mmT_next {ca cb : Nat} {xs ys : List D5} {i j k : Nat} {z : Bool} {s x y : D5} (h : mmT ca cb xs ys i j z k = (s, false)) (hx : xs.getD (i * ca + k) z5 = x) (hy : ys.getD (k * cb + j) z5 = y) : mmT ca cb xs ys i j z (k + 1) = addS (mulS false x y).2 s (mulS false x y).1 := by
  show (if (mmT ca cb xs ys i j z k).2 then _ else _) = _
  rw [h, hx, hy]; rfl
theorem mmT_up {ca cb : Nat} {xs ys : List D5} {i j k K : Nat} (h : (mmT ca cb xs ys i j false k).2 = true) (hk : k ≤ K) : (mmT ca cb xs ys i j false K).2 = true := by
  obtain ⟨q, rfl⟩ := Nat.exists_eq_add_of_le hk
  rw [mmT_stay h]; exact h
def mmF (ca cb : Nat) (xs ys : List D5) (q : Nat) : D5 := (mmT ca cb xs ys (q / cb) (q % cb) false ca).1
def mmG (ca cb : Nat) (xs ys : List D5) (q : Nat) : Bool := (mmT ca cb xs ys (q / cb) (q % cb) false ca).2
theorem mm_at {ca cb i j : Nat} {xs ys : List D5} (hj : j < cb) : mmF ca cb xs ys (i * cb + j) = (mmT ca cb xs ys i j false ca).1 ∧ mmG ca cb xs ys (i * cb + j) = (mmT ca cb xs ys i j false ca).2 := by
  unfold mmF mmG
  rw [(divQ hj).1, (divQ hj).2]; exact ⟨rfl, rfl⟩

end Go.Proofs.Ytncgccpkbneagaa
namespace Go.Proofs.Ytncgccpkbneagaa
open Go.RowKit RM
set_option linter.unusedVariables false
set_option linter.unusedSimpArgs false
attribute [local irreducible] World.setCell

theorem mmT_ok {ca cb : Nat} {xs ys : List D5} {i j k : Nat} (hx : allB xs = true) (hy : allB ys = true) (hX : ∀ k, k < ca → i * ca + k < xs.length) (hY : ∀ k, k < ca → k * cb + j < ys.length) (hk : k ≤ ca) : (mmT ca cb xs ys i j false k).1.ok = true := by
  induction k with
  | zero => exact z5_ok
  | succ k ih =>
    have h1 := ih (by omega)
    show (if (mmT ca cb xs ys i j false k).2 then mmT ca cb xs ys i j false k else _).1.ok = true
    split
    · exact h1
    · exact addS_ok h1 (mulS_ok (all_get hx (get_of (hX k (by omega)))) (all_get hy (get_of (hY k (by omega)))))
/-- the sums as far as they are formed: rows before i whole, row i up to k -/
def mmP (ca cb : Nat) (xs ys : List D5) (i k q : Nat) : D5 := if q / cb < i then (mmT ca cb xs ys (q / cb) (q % cb) false ca).1 else if q / cb = i then (mmT ca cb xs ys (q / cb) (q % cb) false k).1 else z5
theorem mmP_0 (ca cb : Nat) (xs ys : List D5) (N : Nat) : tab N (mmP ca cb xs ys 0 0) = List.replicate N z5 := by
  rw [tab_repl]
  refine tab_congr (fun q _ => ?_)
  unfold mmP
  rw [if_neg (Nat.not_lt_zero _)]
  split <;> rfl
theorem mmP_row (ca cb : Nat) (xs ys : List D5) (N i : Nat) : tab N (mmP ca cb xs ys i ca) = tab N (mmP ca cb xs ys (i + 1) 0) := by
  refine tab_congr (fun q _ => ?_)
  unfold mmP
  by_cases h1 : q / cb < i
  · rw [if_pos h1, if_pos (by omega)]
  · rw [if_neg h1]
    by_cases h2 : q / cb = i
    · rw [if_pos h2, if_pos (by omega)]
    · rw [if_neg h2, if_neg (by omega)]
      split <;> rfl
theorem mmP_end {ca cb : Nat} {xs ys : List D5} {N R : Nat} (hN : N = R * cb) : tab N (mmP ca cb xs ys R 0) = tab N (mmF ca cb xs ys) := by
  refine tab_congr (fun q hq => ?_)
  unfold mmP mmF
  rw [if_pos (Nat.div_lt_of_lt_mul (by rw [Nat.mul_comm, ← hN]; exact hq))]
theorem mmP_at {ca cb i j k : Nat} {xs ys : List D5} (hj : j < cb) : mmP ca cb xs ys i k (i * cb + j) = (mmT ca cb xs ys i j false k).1 := by
  unfold mmP
  rw [(divQ hj).1, (divQ hj).2, if_neg (by omega), if_pos rfl]
theorem mmP_far {ca cb i k q : Nat} {xs ys : List D5} (h : q / cb ≠ i) : mmP ca cb xs ys i (k + 1) q = mmP ca cb xs ys i k q := by
  unfold mmP
  by_cases h1 : q / cb < i
  · rw [if_pos h1, if_pos h1]
  · rw [if_neg h1, if_neg h1, if_neg h, if_neg h]
theorem row_of {cb i q : Nat} (h : q / cb = i) (hcb : 0 < cb) : ∃ j, j < cb ∧ q = i * cb + j := by
  refine ⟨q % cb, Nat.mod_lt _ hcb, ?_⟩
  rw [← h, Nat.mul_comm, Nat.div_add_mod]
/-- one step: a row of products is added -/
theorem mmP_step {ca cb N i k s : Nat} {xs ys prods : List D5} {x : D5} (hcb : 0 < cb) (hs : s = i * cb) (hx : xs.getD (i * ca + k) z5 = x) (hok : ∀ j, j < cb → (mmT ca cb xs ys i j false k).2 = false) (hm : ∀ j, j < cb → (mulS false x (ys.getD (k * cb + j) z5)).2 = false) (hp : ∀ j, j < cb → prods.getD j z5 = (mulS false x (ys.getD (k * cb + j) z5)).1) :
    tab N (addP (mmP ca cb xs ys i k) prods s cb) = tab N (mmP ca cb xs ys i (k + 1)) ∧ (∀ j, j < cb → (mmT ca cb xs ys i j false (k + 1)).2 = addH (mmP ca cb xs ys i k) prods s j) := by
  have key : ∀ j, j < cb → mmT ca cb xs ys i j false (k + 1) = addS false (mmT ca cb xs ys i j false k).1 (prods.getD j z5) := fun j hj => by
    have h1 : mmT ca cb xs ys i j false k = ((mmT ca cb xs ys i j false k).1, false) := Prod.ext rfl (hok j hj)
    rw [mmT_next h1 hx rfl, hm j hj, hp j hj]
  constructor
  · refine tab_congr (fun q _ => ?_)
    by_cases h : q / cb = i
    · obtain ⟨j, hj, rfl⟩ := row_of h hcb
      unfold addP
      rw [if_pos (by omega), mmP_at hj, mmP_at hj, key j hj, hs, Nat.add_sub_cancel_left]
    · rw [mmP_far h]
      unfold addP
      rw [if_neg (fun hh => h (by
        obtain ⟨h1, h2⟩ := hh
        obtain ⟨j, rfl⟩ := Nat.exists_eq_add_of_le h1
        rw [hs]; exact (divQ (show j < cb by omega)).1))]
  · intro j hj
    unfold addH
    rw [key j hj, hs, mmP_at hj]
theorem mmP_skip {ca cb N i k : Nat} {xs ys : List D5} (hcb : 0 < cb) (hk : k < ca) (hx : xs.getD (i * ca + k) z5 = z5) (hxs : allB xs = true) (hys : allB ys = true) (hX : ∀ k, k < ca → i * ca + k < xs.length) (hY : ∀ j, j < cb → ∀ k, k < ca → k * cb + j < ys.length) (hok : ∀ j, j < cb → (mmT ca cb xs ys i j false k).2 = false) :
    tab N (mmP ca cb xs ys i k) = tab N (mmP ca cb xs ys i (k + 1)) ∧ (∀ j, j < cb → (mmT ca cb xs ys i j false (k + 1)).2 = false) := by
  have key : ∀ j, j < cb → mmT ca cb xs ys i j false (k + 1) = ((mmT ca cb xs ys i j false k).1, false) := fun j hj => by
    have h1 : mmT ca cb xs ys i j false k = ((mmT ca cb xs ys i j false k).1, false) := Prod.ext rfl (hok j hj)
    rw [mmT_next h1 hx rfl, mulS_z (all_get hys (get_of (hY j hj k hk)))]
    dsimp only
    rw [addS_z (mmT_ok hxs hys hX (hY j hj) (Nat.le_of_lt hk))]
  constructor
  · refine tab_congr (fun q _ => ?_)
    by_cases h : q / cb = i
    · obtain ⟨j, hj, rfl⟩ := row_of h hcb
      rw [mmP_at hj, mmP_at hj, key j hj]
    · rw [mmP_far h]
  · intro j hj; rw [key j hj]
theorem mmG_of {ca cb N R i j k : Nat} {xs ys : List D5} (hN : N = R * cb) (hi : i < R) (hj : j < cb) (hk : k ≤ ca) (h : (mmT ca cb xs ys i j false k).2 = true) : anyB N (mmG ca cb xs ys) = true := by
  refine anyB_of (q := i * cb + j) (by rw [hN]; exact idx_lt hi hj) ?_
  rw [(mm_at hj).2]; exact mmT_up h hk
theorem anyB_ex {j : Nat} {G : Nat → Bool} (h : anyB j G = true) : ∃ q, q < j ∧ G q = true := by
  unfold anyB at h
  obtain ⟨q, hq, hg⟩ := List.any_eq_true.1 h
  exact ⟨q, List.mem_range.1 hq, hg⟩
theorem addS_bad {x y : D5} {z : Bool} (h : z = true) : (addS z x y).2 = true := by rw [h]; exact addS_t
theorem mmG_mul {ca cb N R i j k : Nat} {xs ys : List D5} {x : D5} (hN : N = R * cb) (hi : i < R) (hj : j < cb) (hk : k < ca) (hx : xs.getD (i * ca + k) z5 = x) (hok : (mmT ca cb xs ys i j false k).2 = false) (h : (mulS false x (ys.getD (k * cb + j) z5)).2 = true) : anyB N (mmG ca cb xs ys) = true := by
  refine mmG_of (k := k + 1) hN hi hj hk ?_
  have h1 : mmT ca cb xs ys i j false k = ((mmT ca cb xs ys i j false k).1, false) := Prod.ext rfl hok
  rw [mmT_next h1 hx rfl]
  exact addS_bad h
theorem mmG_no {ca cb N R : Nat} {xs ys : List D5} (hN : N = R * cb) (hcb : 0 < cb) (h : ∀ i j, i < R → j < cb → (mmT ca cb xs ys i j false ca).2 = false) : anyB N (mmG ca cb xs ys) = false := anyB_f (fun q hq => by
  have h1 : q / cb < R := Nat.div_lt_of_lt_mul (by rw [Nat.mul_comm, ← hN]; exact hq)
  exact h _ _ h1 (Nat.mod_lt _ hcb))
theorem mmP_ok {ca cb i j k : Nat} {xs ys : List D5} (hj : j < cb) (hxs : allB xs = true) (hys : allB ys = true) (hX : ∀ k, k < ca → i * ca + k < xs.length) (hY : ∀ k, k < ca → k * cb + j < ys.length) (hk : k ≤ ca) : (mmP ca cb xs ys i k (i * cb + j)).ok = true := by
  rw [mmP_at hj]; exact mmT_ok hxs hys hX hY hk

end Go.Proofs.Ytncgccpkbneagaa
namespace Go.Proofs.Ytncgccpkbneagaa
open Go.RowKit RM
set_option linter.unusedVariables false
set_option linter.unusedSimpArgs false
attribute [local irreducible] World.setCell

section
variable {P : Program} {ops : Array Oper} {Q : Exit → Act → World → Prop} {md : Region.Mode} {S : World → Prop} {L : Nat}
/-- Three may come up. -/
theorem wpAnyX_three {i j k : Nat} {oi oj ok : Oper} {fuel : Nat} {listed : Array Bool} {a : Act} {w : World} (hi : ops[i]? = some oi) (hj : ops[j]? = some oj) (hk : ops[k]? = some ok) (hr : Region.ready md ops listed = [i, j, k])
    (h1 : ∀ K' : Act → World → Prop, Shut (∀ a w, (i ≠ L → S w) → ((i ≠ L → S w) → wpAnyX P md ops Q S L fuel (listed.setIfInBounds i true) a w) → K' a w) → if Region.wanted oi (yielded ops a.tmps) = true then Oper.wp P oi a w K' Q else K' (a.put oi.dst undef) w)
    (h2 : ∀ K' : Act → World → Prop, Shut (∀ a w, (j ≠ L → S w) → ((j ≠ L → S w) → wpAnyX P md ops Q S L fuel (listed.setIfInBounds j true) a w) → K' a w) → if Region.wanted oj (yielded ops a.tmps) = true then Oper.wp P oj a w K' Q else K' (a.put oj.dst undef) w)
    (h3 : ∀ K' : Act → World → Prop, Shut (∀ a w, (k ≠ L → S w) → ((k ≠ L → S w) → wpAnyX P md ops Q S L fuel (listed.setIfInBounds k true) a w) → K' a w) → if Region.wanted ok (yielded ops a.tmps) = true then Oper.wp P ok a w K' Q else K' (a.put ok.dst undef) w) :
    wpAnyX P md ops Q S L (fuel + 1) listed a w := by
  refine ⟨fun h0 => (by rw [hr] at h0; cases h0), fun q hq => ?_⟩
  rw [hr] at hq
  simp only [List.mem_cons, List.not_mem_nil, or_false] at hq
  rcases hq with rfl | rfl | rfl
  · exact wpOp_step hi (fun K' hK => h1 K' (fun a w hS hW => hK a w ⟨hS, hW hS⟩))
  · exact wpOp_step hj (fun K' hK => h2 K' (fun a w hS hW => hK a w ⟨hS, hW hS⟩))
  · exact wpOp_step hk (fun K' hK => h3 K' (fun a w hS hW => hK a w ⟨hS, hW hS⟩))
end
theorem z5_of {x : D5} (h0 : x.a = 0) (h1 : x.b = 0) (h2 : x.c = 0) (h3 : x.d = 0) (h4 : x.e = 0) : x = z5 := by
  obtain ⟨a, b, c, d, e⟩ := x
  dsimp only at h0 h1 h2 h3 h4
  subst h0 h1 h2 h3 h4; rfl
theorem allB_tab {N : Nat} {F : Nat → D5} (h : ∀ q, q < N → (F q).ok = true) : allB (tab N F) = true := by
  unfold allB
  rw [List.all_eq_true]
  intro x hx
  obtain ⟨q, hq⟩ := List.mem_iff_getElem?.1 hx
  have hl : q < N := by have := (List.getElem?_eq_some_iff.1 hq).1; rwa [tab_len] at this
  rw [tab_get hl] at hq
  simp only [Option.some.injEq] at hq
  rw [← hq]; exact h q hl
theorem undrew {W W' : World} (h : Below W.drew.heap.size W.drew W') : Below W.heap.size W W' := ⟨h.os, h.tape, h.output, h.size, h.block⟩
theorem Bk.monoB {W W' : World} {g : Nat} {t : TypeId} {xs : List D5} (h : Bk W g t xs) (hb : Below W.heap.size W W') : Bk W' g t xs := h.mono hb
set_option maxRecDepth 100000 in
set_option maxHeartbeats 16000000 in
theorem mu_i_t {ra ca cb : Nat} {g0 h0 n m cp cp' : Nat} {xs ys : List D5} {w : World} (hA : Rd w (some ⟨g0, 0, none⟩) xs) (hB : Rd w (some ⟨h0, 0, none⟩) ys) (hn : xs.length = n) (hm : ys.length = m) (hok : okM (ra : Int) (ca : Int) n xs = true) (hok2 : okM (ca : Int) (cb : Int) m ys = true) {N : Nat} (hN9 : N = ra * cb) (hc1 : n ≤ cp) (hc2 : cp ≤ 1048576) (hc3 : m ≤ cp') (hc4 : cp' ≤ 1048576) :
    Calls Try.prog 20 #[mv (ra : Int) (ca : Int) (some ⟨g0, 0, none⟩) n cp, mv (ca : Int) (cb : Int) (some ⟨h0, 0, none⟩) m cp'] w fun ee w' => IR w w' ee (ra : Int) (cb : Int) N (tab N (mmF ca cb xs ys)) (anyB N (mmG ca cb xs ys)) := by
  obtain ⟨hnn, a1, a2, a3, a4, a5⟩ := okM_nat2 hok
  obtain ⟨hmm, -, -, b3, b4, b5⟩ := okM_nat2 hok2
  have n32 : N ≤ 1024 := by rw [hN9]; exact Nat.mul_le_mul a2 b4
  have hmk := mkD cb (by omega)
  have hs5 := size5
  have HS5 := hid hs5
  have EN := hid hN9
  clear hN9 hs5
  have HA := hid hA
  have HB := hid hB
  have HN := hid hn
  have HM := hid hm
  have HO := hid hok
  have HP := hid hok2
  have HNN := hid hnn
  have HMM := hid hmm
  clear hA hB hn hm hok hok2 hnn hmm
  have h0A : g0 < w.heap.size := by
    obtain ⟨x, hx⟩ : ∃ x, xs[0]? = some x := ⟨_, List.getElem?_eq_getElem (by rw [HN.out, HNN.out]; exact Nat.mul_pos (by omega) (by omega))⟩
    exact (HA.out.cx hx).lt
  have h0B : h0 < w.heap.size := by
    obtain ⟨x, hx⟩ : ∃ x, ys[0]? = some x := ⟨_, List.getElem?_eq_getElem (by rw [HM.out, HMM.out]; exact Nat.mul_pos (by omega) (by omega))⟩
    exact (HB.out.cx hx).lt
  go_enter Try.func20, Try.ntmps20
  go_wp2_with (fail)
  refine (vm_i_t (xs := xs) HO.out ?_ HN.out).mono ?_
  · exact HA.out.mono (by (repeat' (first | (with_reducible exact Below.refl _ _) | (with_reducible assumption) | (with_reducible refine Below.alloc ?_ ?_ _) | (with_reducible refine Below.drew ?_) | (with_reducible refine below_drewN ?_ _) | (with_reducible refine Below.setCell ?_ ?_ _) | (with_reducible refine chain ?_ (by assumption) ?_) | omega | (simp; done) | (simp; omega))))
  rintro ee w1 ⟨rfl, hb1⟩
  obtain ⟨hc1, hf1, _⟩ := bcell hb1; have hz1 := hb1.size; (try simp at hz1); (try have hx10 : w.heap.size < w1.heap.size := (by omega)); (try have hx11 : w.heap.size + 1 < w1.heap.size := (by omega)); (try have hx12 : w.heap.size + 1 + 1 < w1.heap.size := (by omega)); (try have hx13 : w.heap.size + 1 + 1 + 1 < w1.heap.size := (by omega))
  have Xa1 : Hid (Bx w1 (w.heap.size) 26 #[.int .i64 (ra : Int), .int .i64 (ca : Int), .slice (some ⟨g0, 0, none⟩) n cp]) := by show Bx _ _ _ _; (repeat' (first | (with_reducible assumption) | (refine Bx.new (by first | (with_reducible rfl) | (simp; done))) | (with_reducible refine Bx.alloc ?_ _) | (with_reducible refine Bx.drew ?_) | (with_reducible refine Bx.drewN ?_ _) | (with_reducible refine Bx.mono ?_ (by assumption)) | (with_reducible refine Bx.badly ?_ (by assumption) (by omega)) | (with_reducible refine Bx.far ?_ (by (try simp only [World.size_alloc, World.size_drew]); omega)) | (with_reducible refine Bx.set ?_ rfl) | (with_reducible refine Bx.grown ?_ (by assumption) (by assumption))))
  have Xb1 : Hid (Bx w1 (w.heap.size + 1) 26 #[.int .i64 (ca : Int), .int .i64 (cb : Int), .slice (some ⟨h0, 0, none⟩) m cp']) := by show Bx _ _ _ _; (repeat' (first | (with_reducible assumption) | (refine Bx.new (by first | (with_reducible rfl) | (simp; done))) | (with_reducible refine Bx.alloc ?_ _) | (with_reducible refine Bx.drew ?_) | (with_reducible refine Bx.drewN ?_ _) | (with_reducible refine Bx.mono ?_ (by assumption)) | (with_reducible refine Bx.badly ?_ (by assumption) (by omega)) | (with_reducible refine Bx.far ?_ (by (try simp only [World.size_alloc, World.size_drew]); omega)) | (with_reducible refine Bx.set ?_ rfl) | (with_reducible refine Bx.grown ?_ (by assumption) (by assumption))))
  have Xz1 : Hid (Bx w1 (w.heap.size + 1 + 1) 26 #[.int .i64 0, .int .i64 0, .slice none 0 0]) := by show Bx _ _ _ _; (repeat' (first | (with_reducible assumption) | (refine Bx.new (by first | (with_reducible rfl) | (simp; done))) | (with_reducible refine Bx.alloc ?_ _) | (with_reducible refine Bx.drew ?_) | (with_reducible refine Bx.drewN ?_ _) | (with_reducible refine Bx.mono ?_ (by assumption)) | (with_reducible refine Bx.badly ?_ (by assumption) (by omega)) | (with_reducible refine Bx.far ?_ (by (try simp only [World.size_alloc, World.size_drew]); omega)) | (with_reducible refine Bx.set ?_ rfl) | (with_reducible refine Bx.grown ?_ (by assumption) (by assumption))))
  have hw1 : Below w.heap.size w w1 := by (repeat' (first | (with_reducible exact Below.refl _ _) | (with_reducible assumption) | (with_reducible refine Below.alloc ?_ ?_ _) | (with_reducible refine Below.drew ?_) | (with_reducible refine below_drewN ?_ _) | (with_reducible refine Below.setCell ?_ ?_ _) | (with_reducible refine chain ?_ (by assumption) ?_) | omega | (simp; done) | (simp; omega)))
  go_wp2_with (fail)
  refine (vm_i_t (xs := ys) HP.out ?_ HM.out).mono ?_
  · exact HB.out.mono (by (repeat' (first | (with_reducible exact Below.refl _ _) | (with_reducible assumption) | (with_reducible refine Below.alloc ?_ ?_ _) | (with_reducible refine Below.drew ?_) | (with_reducible refine below_drewN ?_ _) | (with_reducible refine Below.setCell ?_ ?_ _) | (with_reducible refine chain ?_ (by assumption) ?_) | omega | (simp; done) | (simp; omega))))
  rintro ee w2 ⟨rfl, hb2⟩
  have hz2 := hb2.size
  have hw2 : Below w.heap.size w w2 := chain hw1 hb2 hw1.size
  have Ya2 := hid (Xa1.out.mono hb2)
  have ca0 := Ya2.out.c 0 rfl
  have ca1 := Ya2.out.c 1 rfl
  have ca2 := Ya2.out.c 2 rfl
  have fa := Ya2.out.f
  have la := Ya2.out.lt
  have Yb2 := hid (Xb1.out.mono hb2)
  have cb0 := Yb2.out.c 0 rfl
  have cb1 := Yb2.out.c 1 rfl
  have cb2 := Yb2.out.c 2 rfl
  have fb := Yb2.out.f
  have lb := Yb2.out.lt
  have Yz2 := hid (Xz1.out.mono hb2)
  have cz0 := Yz2.out.c 0 rfl
  have cz1 := Yz2.out.c 1 rfl
  have cz2 := Yz2.out.c 2 rfl
  have fz := Yz2.out.f
  have lz := Yz2.out.lt
  clear Xa1 Xb1 Xz1
  have hBq := hw2.size
  go_wp2_with (fail)
  go_cut [6, 7] (fun s6 s7 wx => ∃ bo gz gm : Nat, s6 = .pointer (some ⟨bo, 0, none⟩) ∧ s7 = .slice (some ⟨gm, 0, none⟩) cb cb ∧ Hid (Bx wx bo 26 #[.int .i64 (ra : Int), .int .i64 (cb : Int), .slice (some ⟨gz, 0, none⟩) N N]) ∧ Hid (Bk wx gz 37 (List.replicate N z5)) ∧ Hid (Bk wx gm 37 (List.replicate cb z5)) ∧ Hid (bo ≠ gz ∧ bo ≠ gm ∧ gz ≠ gm ∧ w2.heap.size ≤ bo ∧ w2.heap.size ≤ gz ∧ w2.heap.size ≤ gm) ∧ Hid (Below w2.heap.size w2 wx))
  case first =>
    have yca0 : w2.drew.cell? ⟨w.heap.size, 0, none⟩ = some (.int .i64 (ra : Int)) := ca0
    have ycb1 : w2.drew.cell? ⟨w.heap.size + 1, 1, none⟩ = some (.int .i64 (cb : Int)) := cb1
    refine wp_region_x (fun w' => w'.cell? ⟨w.heap.size, 0, none⟩ = some (.int .i64 (ra : Int)) ∧ w'.cell? ⟨w.heap.size + 1, 1, none⟩ = some (.int .i64 (cb : Int))) 1000 (by kernel_rfl) ⟨yca0, ycb1⟩ (fun hS0 => ?_)
    refine wpAnyX_take (i := 0) (oi := _) (v := ?_) rfl (by kernel_rfl) (by kernel_rfl) (by kernel_rfl) (by kernel_rfl) (fun _ _ _ h => h) (Or.inl ⟨by rfl, ?_⟩) hS0 ?_
    rotate_left 1
    · (intro w hSw; (try dsimp only at hSw); go_simp; (try with_reducible rfl))
    try simp only [Act.put, List.setIfInBounds_toArray, List.set_cons_zero, List.set_cons_succ]
    refine wpAnyX_take (i := 1) (oi := _) (v := ?_) rfl (by kernel_rfl) (by kernel_rfl) (by kernel_rfl) (by kernel_rfl) (fun _ _ _ h => h) (Or.inl ⟨by rfl, ?_⟩) hS0 ?_
    rotate_left 1
    · (intro w hSw; (try dsimp only at hSw); go_simp; (try with_reducible rfl))
    try simp only [Act.put, List.setIfInBounds_toArray, List.set_cons_zero, List.set_cons_succ]
    refine wpAnyX_take (i := 2) (oi := _) (v := ?_) rfl (by kernel_rfl) (by kernel_rfl) (by kernel_rfl) (by kernel_rfl) (fun _ _ _ h => h) (Or.inl ⟨by rfl, ?_⟩) hS0 ?_
    rotate_left 1
    · (intro w hSw; (try dsimp only at hSw); go_simp; (try with_reducible rfl))
    try simp only [Act.put, List.setIfInBounds_toArray, List.set_cons_zero, List.set_cons_succ]
    refine wpAnyX_take (i := 3) (oi := _) (v := ?_) rfl (by kernel_rfl) (by kernel_rfl) (by kernel_rfl) (by kernel_rfl) (fun _ _ _ h => h) (Or.inl ⟨by rfl, ?_⟩) hS0 ?_
    rotate_left 1
    · (intro w hSw; (try dsimp only at hSw); go_simp; (try with_reducible rfl))
    try simp only [Act.put, List.setIfInBounds_toArray, List.set_cons_zero, List.set_cons_succ]
    refine wpAnyX_take (i := 5) (oi := _) (v := ?_) rfl (by kernel_rfl) (by kernel_rfl) (by kernel_rfl) (by kernel_rfl) (fun _ _ _ h => h) (Or.inl ⟨by rfl, ?_⟩) hS0 ?_
    rotate_left 1
    · (intro w hSw; (try dsimp only at hSw); go_simp; (try with_reducible rfl))
    try simp only [Act.put, List.setIfInBounds_toArray, List.set_cons_zero, List.set_cons_succ]
    refine wpAnyX_take (i := 6) (oi := _) (v := ?_) rfl (by kernel_rfl) (by kernel_rfl) (by kernel_rfl) (by kernel_rfl) (fun _ _ _ h => h) (Or.inl ⟨by rfl, ?_⟩) hS0 ?_
    rotate_left 1
    · (intro w hSw; (try dsimp only at hSw); go_simp; (try with_reducible rfl))
    try simp only [Act.put, List.setIfInBounds_toArray, List.set_cons_zero, List.set_cons_succ]
    refine wpAnyX_three (i := 4) (j := 7) (k := 8) (oi := _) (oj := _) (ok := _) rfl rfl rfl (by kernel_rfl) (fun K hK => ?_) (fun K hK => ?_) (fun K hK => ?_)
    · go_simp
      refine (zm (r := ra) (c := cb) (n := N) (by rw [EN.out]; simp) n32).mono ?_
      rintro ee vz ⟨gz, rfl, hBz, hgz, hbz0⟩
      have hbz := undrew hbz0
      have hzz := hbz.size
      have hzl := hBz.lt
      (try simp only [World.size_alloc, World.size_drew] at hgz hzz)
      refine hK.out _ _ (fun _ => ?_) (fun hS1 => ?_)
      · exact ⟨kc hbz0 hS0.1, kc hbz0 hS0.2⟩
      clear hK K
      have hS1 := hS1 (by decide)
      try simp only [Act.put, List.setIfInBounds_toArray, List.set_cons_zero, List.set_cons_succ]
      refine wpAnyX_two (i := 7) (j := 8) (oi := _) (oj := _) rfl rfl (by kernel_rfl) (fun K hK => ?_) (fun K hK => ?_)
      · go_simp
        refine hK.out _ _ (fun _ => ?_) (fun hS2 => ?_)
        · first | exact ⟨kal hS1.1, kal hS1.2⟩ | exact ⟨kald hS1.1, kald hS1.2⟩
        clear hK K
        have hS2 := hS2 (by decide)
        try simp only [Act.put, List.setIfInBounds_toArray, List.set_cons_zero, List.set_cons_succ]
        refine wpAnyX_one (i := 8) (o := _) rfl (by kernel_rfl) (fun K hK => ?_)
        go_simp
        refine hK.out _ _ (fun _ => ?_) (fun hS3 => ?_)
        · first | exact ⟨kal hS2.1, kal hS2.2⟩ | exact ⟨kald hS2.1, kald hS2.2⟩
        clear hK K
        have hS3 := hS3 (by decide)
        try simp only [Act.put, List.setIfInBounds_toArray, List.set_cons_zero, List.set_cons_succ]
        refine wpAnyX_one (i := 9) (o := _) rfl (by kernel_rfl) (fun K hK => ?_)
        go_simp
        refine hK.out _ _ (fun _ => ?_) (fun hS4 => ?_)
        · first | exact ⟨kst3 (by omega) hS3.1, kst3 (by omega) hS3.2⟩ | exact ⟨kre (by omega) hS3.1, kre (by omega) hS3.2⟩ | exact ⟨kal hS3.1, kal hS3.2⟩ | exact ⟨kal hS2.1, kal hS2.2⟩ | exact ⟨kal (kre (by omega) hS2.1), kal (kre (by omega) hS2.2)⟩
        clear hK K
        have hS4 := hS4 (by decide)
        try simp only [Act.put, List.setIfInBounds_toArray, List.set_cons_zero, List.set_cons_succ]
        refine wpAnyX_take (i := 10) (oi := _) (v := ?_) rfl (by kernel_rfl) (by kernel_rfl) (by kernel_rfl) (by kernel_rfl) (fun _ _ _ h => h) (Or.inl ⟨by rfl, ?_⟩) hS4 ?_
        rotate_left 1
        · (intro w hSw; (try dsimp only at hSw); go_simp; (try with_reducible rfl))
        change wpAnyX _ _ _ _ _ _ _ _ (Act.put _ (some 7) _) _
        try simp only [Act.put, List.setIfInBounds_toArray, List.set_cons_zero, List.set_cons_succ]
        refine wpAnyX_done (by kernel_rfl) ?_ _
        go_wp2_with (fail)
        go_meet
        refine ⟨_, gz, _, rfl, rfl, ?_, ?_, ?_, ?_, ?_⟩
        · show Bx _ _ _ _
          (first | exact (Bx.set (i := 2) (u := .slice (some ⟨gz, 0, none⟩) N N) (Bx.set (i := 1) (u := .int .i64 (cb : Int)) (Bx.set (i := 0) (u := .int .i64 (ra : Int)) (Bx.new (cs := #[.int .i64 0, .int .i64 0, .slice none 0 0]) (by first | rfl | (simp; done))) rfl) rfl) rfl) | exact (Bx.new (cs := #[.int .i64 (ra : Int), .int .i64 (cb : Int), .slice (some ⟨gz, 0, none⟩) N N]) (by first | rfl | (simp; done))))
        · show Bk _ _ _ _
          (first | exact (Bk.far (Bk.far (Bk.far (Bk.alloc (Bk.alloc hBz _) _) (by (try dsimp only); omega) _) (by (try dsimp only); omega) _) (by (try dsimp only); omega) _) | exact (Bk.alloc (Bk.alloc hBz _) _))
        · show Bk _ _ _ _
          (first | exact (Bk.far (Bk.far (Bk.far (Bk.alloc (Bk.made' (by first | rfl | (simp; done))) _) (by (try dsimp only); omega) _) (by (try dsimp only); omega) _) (by (try dsimp only); omega) _) | exact (Bk.alloc (Bk.made' (by first | rfl | (simp; done))) _))
        · show _ ∧ _
          refine ⟨?_, ?_, ?_, ?_, ?_, ?_⟩ <;> omega
        · show Below _ _ _
          (repeat' (first | (with_reducible exact Below.refl _ _) | (with_reducible assumption) | (with_reducible refine Below.alloc ?_ ?_ _) | (with_reducible refine Below.drew ?_) | (with_reducible refine below_drewN ?_ _) | (with_reducible refine Below.setCell ?_ ?_ _) | (with_reducible refine chain ?_ (by assumption) ?_) | omega | (simp; done) | (simp; omega)))
      · go_simp
        refine hK.out _ _ (fun _ => ?_) (fun hS2 => ?_)
        · first | exact ⟨kal hS1.1, kal hS1.2⟩ | exact ⟨kald hS1.1, kald hS1.2⟩
        clear hK K
        have hS2 := hS2 (by decide)
        try simp only [Act.put, List.setIfInBounds_toArray, List.set_cons_zero, List.set_cons_succ]
        refine wpAnyX_two (i := 7) (j := 9) (oi := _) (oj := _) rfl rfl (by kernel_rfl) (fun K hK => ?_) (fun K hK => ?_)
        · go_simp
          refine hK.out _ _ (fun _ => ?_) (fun hS3 => ?_)
          · first | exact ⟨kal hS2.1, kal hS2.2⟩ | exact ⟨kald hS2.1, kald hS2.2⟩
          clear hK K
          have hS3 := hS3 (by decide)
          try simp only [Act.put, List.setIfInBounds_toArray, List.set_cons_zero, List.set_cons_succ]
          refine wpAnyX_one (i := 9) (o := _) rfl (by kernel_rfl) (fun K hK => ?_)
          go_simp
          refine hK.out _ _ (fun _ => ?_) (fun hS4 => ?_)
          · first | exact ⟨kst3 (by omega) hS3.1, kst3 (by omega) hS3.2⟩ | exact ⟨kre (by omega) hS3.1, kre (by omega) hS3.2⟩ | exact ⟨kal hS3.1, kal hS3.2⟩ | exact ⟨kal hS2.1, kal hS2.2⟩ | exact ⟨kal (kre (by omega) hS2.1), kal (kre (by omega) hS2.2)⟩
          clear hK K
          have hS4 := hS4 (by decide)
          try simp only [Act.put, List.setIfInBounds_toArray, List.set_cons_zero, List.set_cons_succ]
          refine wpAnyX_take (i := 10) (oi := _) (v := ?_) rfl (by kernel_rfl) (by kernel_rfl) (by kernel_rfl) (by kernel_rfl) (fun _ _ _ h => h) (Or.inl ⟨by rfl, ?_⟩) hS4 ?_
          rotate_left 1
          · (intro w hSw; (try dsimp only at hSw); go_simp; (try with_reducible rfl))
          change wpAnyX _ _ _ _ _ _ _ _ (Act.put _ (some 7) _) _
          try simp only [Act.put, List.setIfInBounds_toArray, List.set_cons_zero, List.set_cons_succ]
          refine wpAnyX_done (by kernel_rfl) ?_ _
          go_wp2_with (fail)
          go_meet
          refine ⟨_, gz, _, rfl, rfl, ?_, ?_, ?_, ?_, ?_⟩
          · show Bx _ _ _ _
            (first | exact (Bx.set (i := 2) (u := .slice (some ⟨gz, 0, none⟩) N N) (Bx.set (i := 1) (u := .int .i64 (cb : Int)) (Bx.set (i := 0) (u := .int .i64 (ra : Int)) (Bx.alloc (Bx.new (cs := #[.int .i64 0, .int .i64 0, .slice none 0 0]) (by first | rfl | (simp; done))) _) rfl) rfl) rfl) | exact (Bx.alloc (Bx.new (cs := #[.int .i64 (ra : Int), .int .i64 (cb : Int), .slice (some ⟨gz, 0, none⟩) N N]) (by first | rfl | (simp; done))) _))
          · show Bk _ _ _ _
            (first | exact (Bk.far (Bk.far (Bk.far (Bk.alloc (Bk.alloc hBz _) _) (by (try dsimp only); omega) _) (by (try dsimp only); omega) _) (by (try dsimp only); omega) _) | exact (Bk.alloc (Bk.alloc hBz _) _))
          · show Bk _ _ _ _
            (first | exact (Bk.far (Bk.far (Bk.far (Bk.made' (by first | rfl | (simp; done))) (by (try dsimp only); omega) _) (by (try dsimp only); omega) _) (by (try dsimp only); omega) _) | exact (Bk.made' (by first | rfl | (simp; done))))
          · show _ ∧ _
            refine ⟨?_, ?_, ?_, ?_, ?_, ?_⟩ <;> omega
          · show Below _ _ _
            (repeat' (first | (with_reducible exact Below.refl _ _) | (with_reducible assumption) | (with_reducible refine Below.alloc ?_ ?_ _) | (with_reducible refine Below.drew ?_) | (with_reducible refine below_drewN ?_ _) | (with_reducible refine Below.setCell ?_ ?_ _) | (with_reducible refine chain ?_ (by assumption) ?_) | omega | (simp; done) | (simp; omega)))
        · go_simp
          refine hK.out _ _ (fun _ => ?_) (fun hS3 => ?_)
          · first | exact ⟨kst3 (by omega) hS2.1, kst3 (by omega) hS2.2⟩ | exact ⟨kre (by omega) hS2.1, kre (by omega) hS2.2⟩ | exact ⟨kal hS2.1, kal hS2.2⟩ | exact ⟨kal hS1.1, kal hS1.2⟩ | exact ⟨kal (kre (by omega) hS1.1), kal (kre (by omega) hS1.2)⟩
          clear hK K
          have hS3 := hS3 (by decide)
          try simp only [Act.put, List.setIfInBounds_toArray, List.set_cons_zero, List.set_cons_succ]
          refine wpAnyX_one (i := 7) (o := _) rfl (by kernel_rfl) (fun K hK => ?_)
          go_simp
          refine hK.out _ _ (fun _ => ?_) (fun hS4 => ?_)
          · first | exact ⟨kal hS3.1, kal hS3.2⟩ | exact ⟨kald hS3.1, kald hS3.2⟩
          clear hK K
          have hS4 := hS4 (by decide)
          try simp only [Act.put, List.setIfInBounds_toArray, List.set_cons_zero, List.set_cons_succ]
          refine wpAnyX_take (i := 10) (oi := _) (v := ?_) rfl (by kernel_rfl) (by kernel_rfl) (by kernel_rfl) (by kernel_rfl) (fun _ _ _ h => h) (Or.inl ⟨by rfl, ?_⟩) hS4 ?_
          rotate_left 1
          · (intro w hSw; (try dsimp only at hSw); go_simp; (try with_reducible rfl))
          change wpAnyX _ _ _ _ _ _ _ _ (Act.put _ (some 7) _) _
          try simp only [Act.put, List.setIfInBounds_toArray, List.set_cons_zero, List.set_cons_succ]
          refine wpAnyX_done (by kernel_rfl) ?_ _
          go_wp2_with (fail)
          go_meet
          refine ⟨_, gz, _, rfl, rfl, ?_, ?_, ?_, ?_, ?_⟩
          · show Bx _ _ _ _
            (first | exact (Bx.alloc (Bx.set (i := 2) (u := .slice (some ⟨gz, 0, none⟩) N N) (Bx.set (i := 1) (u := .int .i64 (cb : Int)) (Bx.set (i := 0) (u := .int .i64 (ra : Int)) (Bx.new (cs := #[.int .i64 0, .int .i64 0, .slice none 0 0]) (by first | rfl | (simp; done))) rfl) rfl) rfl) _) | exact (Bx.alloc (Bx.new (cs := #[.int .i64 (ra : Int), .int .i64 (cb : Int), .slice (some ⟨gz, 0, none⟩) N N]) (by first | rfl | (simp; done))) _))
          · show Bk _ _ _ _
            (first | exact (Bk.alloc (Bk.far (Bk.far (Bk.far (Bk.alloc hBz _) (by (try dsimp only); omega) _) (by (try dsimp only); omega) _) (by (try dsimp only); omega) _) _) | exact (Bk.alloc (Bk.alloc hBz _) _))
          · show Bk _ _ _ _
            (first | exact (Bk.made' (by first | rfl | (simp; done))) | exact (Bk.made' (by first | rfl | (simp; done))))
          · show _ ∧ _
            refine ⟨?_, ?_, ?_, ?_, ?_, ?_⟩ <;> omega
          · show Below _ _ _
            (repeat' (first | (with_reducible exact Below.refl _ _) | (with_reducible assumption) | (with_reducible refine Below.alloc ?_ ?_ _) | (with_reducible refine Below.drew ?_) | (with_reducible refine below_drewN ?_ _) | (with_reducible refine Below.setCell ?_ ?_ _) | (with_reducible refine chain ?_ (by assumption) ?_) | omega | (simp; done) | (simp; omega)))
    · go_simp
      refine hK.out _ _ (fun _ => ?_) (fun hS1 => ?_)
      · first | exact ⟨kal hS0.1, kal hS0.2⟩ | exact ⟨kald hS0.1, kald hS0.2⟩
      clear hK K
      have hS1 := hS1 (by decide)
      try simp only [Act.put, List.setIfInBounds_toArray, List.set_cons_zero, List.set_cons_succ]
      refine wpAnyX_two (i := 4) (j := 8) (oi := _) (oj := _) rfl rfl (by kernel_rfl) (fun K hK => ?_) (fun K hK => ?_)
      · go_simp
        refine (zm (r := ra) (c := cb) (n := N) (by rw [EN.out]; simp) n32).mono ?_
        rintro ee vz ⟨gz, rfl, hBz, hgz, hbz0⟩
        have hbz := undrew hbz0
        have hzz := hbz.size
        have hzl := hBz.lt
        (try simp only [World.size_alloc, World.size_drew] at hgz hzz)
        refine hK.out _ _ (fun _ => ?_) (fun hS2 => ?_)
        · exact ⟨kc hbz0 hS1.1, kc hbz0 hS1.2⟩
        clear hK K
        have hS2 := hS2 (by decide)
        try simp only [Act.put, List.setIfInBounds_toArray, List.set_cons_zero, List.set_cons_succ]
        refine wpAnyX_one (i := 8) (o := _) rfl (by kernel_rfl) (fun K hK => ?_)
        go_simp
        refine hK.out _ _ (fun _ => ?_) (fun hS3 => ?_)
        · first | exact ⟨kal hS2.1, kal hS2.2⟩ | exact ⟨kald hS2.1, kald hS2.2⟩
        clear hK K
        have hS3 := hS3 (by decide)
        try simp only [Act.put, List.setIfInBounds_toArray, List.set_cons_zero, List.set_cons_succ]
        refine wpAnyX_one (i := 9) (o := _) rfl (by kernel_rfl) (fun K hK => ?_)
        go_simp
        refine hK.out _ _ (fun _ => ?_) (fun hS4 => ?_)
        · first | exact ⟨kst3 (by omega) hS3.1, kst3 (by omega) hS3.2⟩ | exact ⟨kre (by omega) hS3.1, kre (by omega) hS3.2⟩ | exact ⟨kal hS3.1, kal hS3.2⟩ | exact ⟨kal hS2.1, kal hS2.2⟩ | exact ⟨kal (kre (by omega) hS2.1), kal (kre (by omega) hS2.2)⟩
        clear hK K
        have hS4 := hS4 (by decide)
        try simp only [Act.put, List.setIfInBounds_toArray, List.set_cons_zero, List.set_cons_succ]
        refine wpAnyX_take (i := 10) (oi := _) (v := ?_) rfl (by kernel_rfl) (by kernel_rfl) (by kernel_rfl) (by kernel_rfl) (fun _ _ _ h => h) (Or.inl ⟨by rfl, ?_⟩) hS4 ?_
        rotate_left 1
        · (intro w hSw; (try dsimp only at hSw); go_simp; (try with_reducible rfl))
        change wpAnyX _ _ _ _ _ _ _ _ (Act.put _ (some 7) _) _
        try simp only [Act.put, List.setIfInBounds_toArray, List.set_cons_zero, List.set_cons_succ]
        refine wpAnyX_done (by kernel_rfl) ?_ _
        go_wp2_with (fail)
        go_meet
        refine ⟨_, gz, _, rfl, rfl, ?_, ?_, ?_, ?_, ?_⟩
        · show Bx _ _ _ _
          (first | exact (Bx.set (i := 2) (u := .slice (some ⟨gz, 0, none⟩) N N) (Bx.set (i := 1) (u := .int .i64 (cb : Int)) (Bx.set (i := 0) (u := .int .i64 (ra : Int)) (Bx.new (cs := #[.int .i64 0, .int .i64 0, .slice none 0 0]) (by first | rfl | (simp; done))) rfl) rfl) rfl) | exact (Bx.new (cs := #[.int .i64 (ra : Int), .int .i64 (cb : Int), .slice (some ⟨gz, 0, none⟩) N N]) (by first | rfl | (simp; done))))
        · show Bk _ _ _ _
          (first | exact (Bk.far (Bk.far (Bk.far (Bk.alloc hBz _) (by (try dsimp only); omega) _) (by (try dsimp only); omega) _) (by (try dsimp only); omega) _) | exact (Bk.alloc hBz _))
        · show Bk _ _ _ _
          (first | exact (Bk.far (Bk.far (Bk.far (Bk.alloc (Bk.monoB (Bk.made' (by first | rfl | (simp; done))) hbz) _) (by (try dsimp only); omega) _) (by (try dsimp only); omega) _) (by (try dsimp only); omega) _) | exact (Bk.alloc (Bk.monoB (Bk.made' (by first | rfl | (simp; done))) hbz) _))
        · show _ ∧ _
          refine ⟨?_, ?_, ?_, ?_, ?_, ?_⟩ <;> omega
        · show Below _ _ _
          (repeat' (first | (with_reducible exact Below.refl _ _) | (with_reducible assumption) | (with_reducible refine Below.alloc ?_ ?_ _) | (with_reducible refine Below.drew ?_) | (with_reducible refine below_drewN ?_ _) | (with_reducible refine Below.setCell ?_ ?_ _) | (with_reducible refine chain ?_ (by assumption) ?_) | omega | (simp; done) | (simp; omega)))
      · go_simp
        refine hK.out _ _ (fun _ => ?_) (fun hS2 => ?_)
        · first | exact ⟨kal hS1.1, kal hS1.2⟩ | exact ⟨kald hS1.1, kald hS1.2⟩
        clear hK K
        have hS2 := hS2 (by decide)
        try simp only [Act.put, List.setIfInBounds_toArray, List.set_cons_zero, List.set_cons_succ]
        refine wpAnyX_one (i := 4) (o := _) rfl (by kernel_rfl) (fun K hK => ?_)
        go_simp
        refine (zm (r := ra) (c := cb) (n := N) (by rw [EN.out]; simp) n32).mono ?_
        rintro ee vz ⟨gz, rfl, hBz, hgz, hbz0⟩
        have hbz := undrew hbz0
        have hzz := hbz.size
        have hzl := hBz.lt
        (try simp only [World.size_alloc, World.size_drew] at hgz hzz)
        refine hK.out _ _ (fun _ => ?_) (fun hS3 => ?_)
        · exact ⟨kc hbz0 hS2.1, kc hbz0 hS2.2⟩
        clear hK K
        have hS3 := hS3 (by decide)
        try simp only [Act.put, List.setIfInBounds_toArray, List.set_cons_zero, List.set_cons_succ]
        refine wpAnyX_one (i := 9) (o := _) rfl (by kernel_rfl) (fun K hK => ?_)
        have XB : Bx _ (w2.heap.size + 1) 26 #[.int .i64 0, .int .i64 0, .slice none 0 0] := (Bx.mono (Bx.new (by first | rfl | (simp; done))) hbz)
        have xb0 := XB.c 0 rfl
        have xb1 := XB.c 1 rfl
        have xb2 := XB.c 2 rfl
        have xbf := XB.f
        have xbl := XB.lt
        go_simp
        refine hK.out _ _ (fun _ => ?_) (fun hS4 => ?_)
        · first | exact ⟨kst3 (by omega) hS3.1, kst3 (by omega) hS3.2⟩ | exact ⟨kre (by omega) hS3.1, kre (by omega) hS3.2⟩ | exact ⟨kal hS3.1, kal hS3.2⟩ | exact ⟨kal hS2.1, kal hS2.2⟩ | exact ⟨kal (kre (by omega) hS2.1), kal (kre (by omega) hS2.2)⟩
        clear hK K
        have hS4 := hS4 (by decide)
        try simp only [Act.put, List.setIfInBounds_toArray, List.set_cons_zero, List.set_cons_succ]
        refine wpAnyX_take (i := 10) (oi := _) (v := ?_) rfl (by kernel_rfl) (by kernel_rfl) (by kernel_rfl) (by kernel_rfl) (fun _ _ _ h => h) (Or.inl ⟨by rfl, ?_⟩) hS4 ?_
        rotate_left 1
        · (intro w hSw; (try dsimp only at hSw); go_simp; (try with_reducible rfl))
        change wpAnyX _ _ _ _ _ _ _ _ (Act.put _ (some 7) _) _
        try simp only [Act.put, List.setIfInBounds_toArray, List.set_cons_zero, List.set_cons_succ]
        refine wpAnyX_done (by kernel_rfl) ?_ _
        go_wp2_with (fail)
        go_meet
        refine ⟨_, gz, _, rfl, rfl, ?_, ?_, ?_, ?_, ?_⟩
        · show Bx _ _ _ _
          (first | exact (Bx.set (i := 2) (u := .slice (some ⟨gz, 0, none⟩) N N) (Bx.set (i := 1) (u := .int .i64 (cb : Int)) (Bx.set (i := 0) (u := .int .i64 (ra : Int)) (Bx.mono (Bx.new (cs := #[.int .i64 0, .int .i64 0, .slice none 0 0]) (by first | rfl | (simp; done))) hbz) rfl) rfl) rfl) | exact (Bx.mono (Bx.new (cs := #[.int .i64 (ra : Int), .int .i64 (cb : Int), .slice (some ⟨gz, 0, none⟩) N N]) (by first | rfl | (simp; done))) hbz))
        · show Bk _ _ _ _
          (first | exact (Bk.far (Bk.far (Bk.far hBz (by (try dsimp only); omega) _) (by (try dsimp only); omega) _) (by (try dsimp only); omega) _) | exact hBz)
        · show Bk _ _ _ _
          (first | exact (Bk.far (Bk.far (Bk.far (Bk.monoB (Bk.alloc (Bk.made' (by first | rfl | (simp; done))) _) hbz) (by (try dsimp only); omega) _) (by (try dsimp only); omega) _) (by (try dsimp only); omega) _) | exact (Bk.monoB (Bk.alloc (Bk.made' (by first | rfl | (simp; done))) _) hbz))
        · show _ ∧ _
          refine ⟨?_, ?_, ?_, ?_, ?_, ?_⟩ <;> omega
        · show Below _ _ _
          (repeat' (first | (with_reducible exact Below.refl _ _) | (with_reducible assumption) | (with_reducible refine Below.alloc ?_ ?_ _) | (with_reducible refine Below.drew ?_) | (with_reducible refine below_drewN ?_ _) | (with_reducible refine Below.setCell ?_ ?_ _) | (with_reducible refine chain ?_ (by assumption) ?_) | omega | (simp; done) | (simp; omega)))
    · go_simp
      refine hK.out _ _ (fun _ => ?_) (fun hS1 => ?_)
      · first | exact ⟨kal hS0.1, kal hS0.2⟩ | exact ⟨kald hS0.1, kald hS0.2⟩
      clear hK K
      have hS1 := hS1 (by decide)
      try simp only [Act.put, List.setIfInBounds_toArray, List.set_cons_zero, List.set_cons_succ]
      refine wpAnyX_two (i := 4) (j := 7) (oi := _) (oj := _) rfl rfl (by kernel_rfl) (fun K hK => ?_) (fun K hK => ?_)
      · go_simp
        refine (zm (r := ra) (c := cb) (n := N) (by rw [EN.out]; simp) n32).mono ?_
        rintro ee vz ⟨gz, rfl, hBz, hgz, hbz0⟩
        have hbz := undrew hbz0
        have hzz := hbz.size
        have hzl := hBz.lt
        (try simp only [World.size_alloc, World.size_drew] at hgz hzz)
        refine hK.out _ _ (fun _ => ?_) (fun hS2 => ?_)
        · exact ⟨kc hbz0 hS1.1, kc hbz0 hS1.2⟩
        clear hK K
        have hS2 := hS2 (by decide)
        try simp only [Act.put, List.setIfInBounds_toArray, List.set_cons_zero, List.set_cons_succ]
        refine wpAnyX_two (i := 7) (j := 9) (oi := _) (oj := _) rfl rfl (by kernel_rfl) (fun K hK => ?_) (fun K hK => ?_)
        · go_simp
          refine hK.out _ _ (fun _ => ?_) (fun hS3 => ?_)
          · first | exact ⟨kal hS2.1, kal hS2.2⟩ | exact ⟨kald hS2.1, kald hS2.2⟩
          clear hK K
          have hS3 := hS3 (by decide)
          try simp only [Act.put, List.setIfInBounds_toArray, List.set_cons_zero, List.set_cons_succ]
          refine wpAnyX_one (i := 9) (o := _) rfl (by kernel_rfl) (fun K hK => ?_)
          have XB : Bx _ (w2.heap.size) 26 #[.int .i64 0, .int .i64 0, .slice none 0 0] := (Bx.alloc (Bx.mono (Bx.new (by first | rfl | (simp; done))) hbz) (.cells (csL (List.replicate cb z5)).toArray 37))
          have xb0 := XB.c 0 rfl
          have xb1 := XB.c 1 rfl
          have xb2 := XB.c 2 rfl
          have xbf := XB.f
          have xbl := XB.lt
          go_simp
          refine hK.out _ _ (fun _ => ?_) (fun hS4 => ?_)
          · first | exact ⟨kst3 (by omega) hS3.1, kst3 (by omega) hS3.2⟩ | exact ⟨kre (by omega) hS3.1, kre (by omega) hS3.2⟩ | exact ⟨kal hS3.1, kal hS3.2⟩ | exact ⟨kal hS2.1, kal hS2.2⟩ | exact ⟨kal (kre (by omega) hS2.1), kal (kre (by omega) hS2.2)⟩
          clear hK K
          have hS4 := hS4 (by decide)
          try simp only [Act.put, List.setIfInBounds_toArray, List.set_cons_zero, List.set_cons_succ]
          refine wpAnyX_take (i := 10) (oi := _) (v := ?_) rfl (by kernel_rfl) (by kernel_rfl) (by kernel_rfl) (by kernel_rfl) (fun _ _ _ h => h) (Or.inl ⟨by rfl, ?_⟩) hS4 ?_
          rotate_left 1
          · (intro w hSw; (try dsimp only at hSw); go_simp; (try with_reducible rfl))
          change wpAnyX _ _ _ _ _ _ _ _ (Act.put _ (some 7) _) _
          try simp only [Act.put, List.setIfInBounds_toArray, List.set_cons_zero, List.set_cons_succ]
          refine wpAnyX_done (by kernel_rfl) ?_ _
          go_wp2_with (fail)
          go_meet
          refine ⟨_, gz, _, rfl, rfl, ?_, ?_, ?_, ?_, ?_⟩
          · show Bx _ _ _ _
            (first | exact (Bx.set (i := 2) (u := .slice (some ⟨gz, 0, none⟩) N N) (Bx.set (i := 1) (u := .int .i64 (cb : Int)) (Bx.set (i := 0) (u := .int .i64 (ra : Int)) (Bx.alloc (Bx.mono (Bx.new (cs := #[.int .i64 0, .int .i64 0, .slice none 0 0]) (by first | rfl | (simp; done))) hbz) _) rfl) rfl) rfl) | exact (Bx.alloc (Bx.mono (Bx.new (cs := #[.int .i64 (ra : Int), .int .i64 (cb : Int), .slice (some ⟨gz, 0, none⟩) N N]) (by first | rfl | (simp; done))) hbz) _))
          · show Bk _ _ _ _
            (first | exact (Bk.far (Bk.far (Bk.far (Bk.alloc hBz _) (by (try dsimp only); omega) _) (by (try dsimp only); omega) _) (by (try dsimp only); omega) _) | exact (Bk.alloc hBz _))
          · show Bk _ _ _ _
            (first | exact (Bk.far (Bk.far (Bk.far (Bk.made' (by first | rfl | (simp; done))) (by (try dsimp only); omega) _) (by (try dsimp only); omega) _) (by (try dsimp only); omega) _) | exact (Bk.made' (by first | rfl | (simp; done))))
          · show _ ∧ _
            refine ⟨?_, ?_, ?_, ?_, ?_, ?_⟩ <;> omega
          · show Below _ _ _
            (repeat' (first | (with_reducible exact Below.refl _ _) | (with_reducible assumption) | (with_reducible refine Below.alloc ?_ ?_ _) | (with_reducible refine Below.drew ?_) | (with_reducible refine below_drewN ?_ _) | (with_reducible refine Below.setCell ?_ ?_ _) | (with_reducible refine chain ?_ (by assumption) ?_) | omega | (simp; done) | (simp; omega)))
        · have XB : Bx _ (w2.heap.size) 26 #[.int .i64 0, .int .i64 0, .slice none 0 0] := (Bx.mono (Bx.new (by first | rfl | (simp; done))) hbz)
          have xb0 := XB.c 0 rfl
          have xb1 := XB.c 1 rfl
          have xb2 := XB.c 2 rfl
          have xbf := XB.f
          have xbl := XB.lt
          go_simp
          refine hK.out _ _ (fun _ => ?_) (fun hS3 => ?_)
          · first | exact ⟨kst3 (by omega) hS2.1, kst3 (by omega) hS2.2⟩ | exact ⟨kre (by omega) hS2.1, kre (by omega) hS2.2⟩ | exact ⟨kal hS2.1, kal hS2.2⟩ | exact ⟨kal hS1.1, kal hS1.2⟩ | exact ⟨kal (kre (by omega) hS1.1), kal (kre (by omega) hS1.2)⟩
          clear hK K
          have hS3 := hS3 (by decide)
          try simp only [Act.put, List.setIfInBounds_toArray, List.set_cons_zero, List.set_cons_succ]
          refine wpAnyX_one (i := 7) (o := _) rfl (by kernel_rfl) (fun K hK => ?_)
          go_simp
          refine hK.out _ _ (fun _ => ?_) (fun hS4 => ?_)
          · first | exact ⟨kal hS3.1, kal hS3.2⟩ | exact ⟨kald hS3.1, kald hS3.2⟩
          clear hK K
          have hS4 := hS4 (by decide)
          try simp only [Act.put, List.setIfInBounds_toArray, List.set_cons_zero, List.set_cons_succ]
          refine wpAnyX_take (i := 10) (oi := _) (v := ?_) rfl (by kernel_rfl) (by kernel_rfl) (by kernel_rfl) (by kernel_rfl) (fun _ _ _ h => h) (Or.inl ⟨by rfl, ?_⟩) hS4 ?_
          rotate_left 1
          · (intro w hSw; (try dsimp only at hSw); go_simp; (try with_reducible rfl))
          change wpAnyX _ _ _ _ _ _ _ _ (Act.put _ (some 7) _) _
          try simp only [Act.put, List.setIfInBounds_toArray, List.set_cons_zero, List.set_cons_succ]
          refine wpAnyX_done (by kernel_rfl) ?_ _
          go_wp2_with (fail)
          go_meet
          refine ⟨_, gz, _, rfl, rfl, ?_, ?_, ?_, ?_, ?_⟩
          · show Bx _ _ _ _
            (first | exact (Bx.alloc (Bx.set (i := 2) (u := .slice (some ⟨gz, 0, none⟩) N N) (Bx.set (i := 1) (u := .int .i64 (cb : Int)) (Bx.set (i := 0) (u := .int .i64 (ra : Int)) (Bx.mono (Bx.new (cs := #[.int .i64 0, .int .i64 0, .slice none 0 0]) (by first | rfl | (simp; done))) hbz) rfl) rfl) rfl) _) | exact (Bx.alloc (Bx.mono (Bx.new (cs := #[.int .i64 (ra : Int), .int .i64 (cb : Int), .slice (some ⟨gz, 0, none⟩) N N]) (by first | rfl | (simp; done))) hbz) _))
          · show Bk _ _ _ _
            (first | exact (Bk.alloc (Bk.far (Bk.far (Bk.far hBz (by (try dsimp only); omega) _) (by (try dsimp only); omega) _) (by (try dsimp only); omega) _) _) | exact (Bk.alloc hBz _))
          · show Bk _ _ _ _
            (first | exact (Bk.made' (by first | rfl | (simp; done))) | exact (Bk.made' (by first | rfl | (simp; done))))
          · show _ ∧ _
            refine ⟨?_, ?_, ?_, ?_, ?_, ?_⟩ <;> omega
          · show Below _ _ _
            (repeat' (first | (with_reducible exact Below.refl _ _) | (with_reducible assumption) | (with_reducible refine Below.alloc ?_ ?_ _) | (with_reducible refine Below.drew ?_) | (with_reducible refine below_drewN ?_ _) | (with_reducible refine Below.setCell ?_ ?_ _) | (with_reducible refine chain ?_ (by assumption) ?_) | omega | (simp; done) | (simp; omega)))
      · go_simp
        refine hK.out _ _ (fun _ => ?_) (fun hS2 => ?_)
        · first | exact ⟨kal hS1.1, kal hS1.2⟩ | exact ⟨kald hS1.1, kald hS1.2⟩
        clear hK K
        have hS2 := hS2 (by decide)
        try simp only [Act.put, List.setIfInBounds_toArray, List.set_cons_zero, List.set_cons_succ]
        refine wpAnyX_one (i := 4) (o := _) rfl (by kernel_rfl) (fun K hK => ?_)
        go_simp
        refine (zm (r := ra) (c := cb) (n := N) (by rw [EN.out]; simp) n32).mono ?_
        rintro ee vz ⟨gz, rfl, hBz, hgz, hbz0⟩
        have hbz := undrew hbz0
        have hzz := hbz.size
        have hzl := hBz.lt
        (try simp only [World.size_alloc, World.size_drew] at hgz hzz)
        refine hK.out _ _ (fun _ => ?_) (fun hS3 => ?_)
        · exact ⟨kc hbz0 hS2.1, kc hbz0 hS2.2⟩
        clear hK K
        have hS3 := hS3 (by decide)
        try simp only [Act.put, List.setIfInBounds_toArray, List.set_cons_zero, List.set_cons_succ]
        refine wpAnyX_one (i := 9) (o := _) rfl (by kernel_rfl) (fun K hK => ?_)
        have XB : Bx _ (w2.heap.size) 26 #[.int .i64 0, .int .i64 0, .slice none 0 0] := (Bx.mono (Bx.alloc (Bx.new (by first | rfl | (simp; done))) (.cells (csL (List.replicate cb z5)).toArray 37)) hbz)
        have xb0 := XB.c 0 rfl
        have xb1 := XB.c 1 rfl
        have xb2 := XB.c 2 rfl
        have xbf := XB.f
        have xbl := XB.lt
        go_simp
        refine hK.out _ _ (fun _ => ?_) (fun hS4 => ?_)
        · first | exact ⟨kst3 (by omega) hS3.1, kst3 (by omega) hS3.2⟩ | exact ⟨kre (by omega) hS3.1, kre (by omega) hS3.2⟩ | exact ⟨kal hS3.1, kal hS3.2⟩ | exact ⟨kal hS2.1, kal hS2.2⟩ | exact ⟨kal (kre (by omega) hS2.1), kal (kre (by omega) hS2.2)⟩
        clear hK K
        have hS4 := hS4 (by decide)
        try simp only [Act.put, List.setIfInBounds_toArray, List.set_cons_zero, List.set_cons_succ]
        refine wpAnyX_take (i := 10) (oi := _) (v := ?_) rfl (by kernel_rfl) (by kernel_rfl) (by kernel_rfl) (by kernel_rfl) (fun _ _ _ h => h) (Or.inl ⟨by rfl, ?_⟩) hS4 ?_
        rotate_left 1
        · (intro w hSw; (try dsimp only at hSw); go_simp; (try with_reducible rfl))
        change wpAnyX _ _ _ _ _ _ _ _ (Act.put _ (some 7) _) _
        try simp only [Act.put, List.setIfInBounds_toArray, List.set_cons_zero, List.set_cons_succ]
        refine wpAnyX_done (by kernel_rfl) ?_ _
        go_wp2_with (fail)
        go_meet
        refine ⟨_, gz, _, rfl, rfl, ?_, ?_, ?_, ?_, ?_⟩
        · show Bx _ _ _ _
          (first | exact (Bx.set (i := 2) (u := .slice (some ⟨gz, 0, none⟩) N N) (Bx.set (i := 1) (u := .int .i64 (cb : Int)) (Bx.set (i := 0) (u := .int .i64 (ra : Int)) (Bx.mono (Bx.alloc (Bx.new (cs := #[.int .i64 0, .int .i64 0, .slice none 0 0]) (by first | rfl | (simp; done))) _) hbz) rfl) rfl) rfl) | exact (Bx.mono (Bx.alloc (Bx.new (cs := #[.int .i64 (ra : Int), .int .i64 (cb : Int), .slice (some ⟨gz, 0, none⟩) N N]) (by first | rfl | (simp; done))) _) hbz))
        · show Bk _ _ _ _
          (first | exact (Bk.far (Bk.far (Bk.far hBz (by (try dsimp only); omega) _) (by (try dsimp only); omega) _) (by (try dsimp only); omega) _) | exact hBz)
        · show Bk _ _ _ _
          (first | exact (Bk.far (Bk.far (Bk.far (Bk.monoB (Bk.made' (by first | rfl | (simp; done))) hbz) (by (try dsimp only); omega) _) (by (try dsimp only); omega) _) (by (try dsimp only); omega) _) | exact (Bk.monoB (Bk.made' (by first | rfl | (simp; done))) hbz))
        · show _ ∧ _
          refine ⟨?_, ?_, ?_, ?_, ?_, ?_⟩ <;> omega
        · show Below _ _ _
          (repeat' (first | (with_reducible exact Below.refl _ _) | (with_reducible assumption) | (with_reducible refine Below.alloc ?_ ?_ _) | (with_reducible refine Below.drew ?_) | (with_reducible refine below_drewN ?_ _) | (with_reducible refine Below.setCell ?_ ?_ _) | (with_reducible refine chain ?_ (by assumption) ?_) | omega | (simp; done) | (simp; omega)))
  case rest =>
    obtain ⟨w5, rfl⟩ : ∃ w5, w5 = wc := ⟨_, rfl⟩
    obtain ⟨bo, gz, gm, rfl, rfl, Xo, HGZ, HGM, HDI, HB5⟩ := hcut
    obtain ⟨n1, n2, n3, n4, n5, n6⟩ := HDI.out
    have hz5 := HB5.out.size
    have hw5 : Below w.heap.size w w5 := chain hw2 HB5.out hw2.size
    have Xa := hid (Ya2.out.mono HB5.out)
    have Xb := hid (Yb2.out.mono HB5.out)
    have Xz := hid (Yz2.out.mono HB5.out)
    have H5 := hid hw5
    have lz2 := lz
    clear Ya2 Yb2 Yz2 hw5 HDI HB5 ca0 ca1 ca2 cb0 cb1 cb2 cz0 cz1 cz2 fa la fb lb fz lz hmk
    have ca0 := Xa.out.c 0 rfl
    have ca1 := Xa.out.c 1 rfl
    have ca2 := Xa.out.c 2 rfl
    have la := Xa.out.lt
    have cb0 := Xb.out.c 0 rfl
    have cb1 := Xb.out.c 1 rfl
    have cb2 := Xb.out.c 2 rfl
    have lb := Xb.out.lt
    have cz0 := Xz.out.c 0 rfl
    have cz1 := Xz.out.c 1 rfl
    have cz2 := Xz.out.c 2 rfl
    have lz := Xz.out.lt
    have fz := Xz.out.f
    have co0 := Xo.out.c 0 rfl
    have co1 := Xo.out.c 1 rfl
    have co2 := Xo.out.c 2 rfl
    have lo := Xo.out.lt
    go_wp2_with (fail)
    go_loopg [38] ra (fun q s1 wo => ∃ i : Nat, i + q = ra ∧ s1 = .int .i64 (i : Int) ∧ Hid (Bx wo (w.heap.size) 26 #[.int .i64 (ra : Int), .int .i64 (ca : Int), .slice (some ⟨g0, 0, none⟩) n cp]) ∧ Hid (Bx wo (w.heap.size + 1) 26 #[.int .i64 (ca : Int), .int .i64 (cb : Int), .slice (some ⟨h0, 0, none⟩) m cp']) ∧ Hid (Bx wo (w.heap.size + 1 + 1) 26 #[.int .i64 0, .int .i64 0, .slice none 0 0]) ∧ Hid (Bx wo (bo) 26 #[.int .i64 (ra : Int), .int .i64 (cb : Int), .slice (some ⟨gz, 0, none⟩) N N]) ∧ Hid (Bk wo gz 37 (tab N (mmP ca cb xs ys i 0))) ∧ Hid (∃ ms : List D5, Bk wo gm 37 ms ∧ ms.length = cb) ∧ Hid (∀ i' j, i' < i → j < cb → (mmT ca cb xs ys i' j false ca).2 = false) ∧ w5.heap.size ≤ wo.heap.size ∧ Hid (Below w.heap.size w wo))
    case atStart =>
      refine ⟨0, by omega, rfl, Xa, Xb, Xz, Xo, ?_, ?_, ?_, Nat.le_refl _, H5⟩
      · show Bk _ _ _ _; rw [mmP_0]; exact HGZ.out
      · exact hid ⟨_, HGM.out, by simp⟩
      · exact hid (fun i' j h => absurd h (Nat.not_lt_zero _))
    case round =>
      clear HGZ HGM H5 Xa la ca0 ca1 ca2 Xb lb cb0 cb1 cb2 Xz lz cz0 cz1 cz2 Xo lo co0 co1 co2 fz
      obtain ⟨i, hi, rfl, Xa, Xb, Xz, Xo, HG, HMS, HK, hsz, HBo⟩ := hrel
      have ca0 := Xa.out.c 0 rfl
      have ca1 := Xa.out.c 1 rfl
      have ca2 := Xa.out.c 2 rfl
      have la := Xa.out.lt
      have cb0 := Xb.out.c 0 rfl
      have cb1 := Xb.out.c 1 rfl
      have cb2 := Xb.out.c 2 rfl
      have lb := Xb.out.lt
      have cz0 := Xz.out.c 0 rfl
      have cz1 := Xz.out.c 1 rfl
      have cz2 := Xz.out.c 2 rfl
      have lz := Xz.out.lt
      have fz := Xz.out.f
      have co0 := Xo.out.c 0 rfl
      have co1 := Xo.out.c 1 rfl
      have co2 := Xo.out.c 2 rfl
      have lo := Xo.out.lt
      cases gk with
      | zero =>
        obtain rfl : ra = i := by omega
        have hBq := HBo.out.size
        go_wp2_with (fail)
        refine bodyPost_ret (v := mt (ra : Int) (cb : Int) (some ⟨gz, 0, none⟩) N N true) (by first | (simp [results, Try.results20, go_sem, *]; done) | (simp (disch := (first | omega | (simp; done) | (simp; omega))) [results, Try.results20, go_sem, *]; done) | (simp only [results, Try.results20]; go_simp; done)) rfl ⟨fun h => ?_, fun _ => ⟨gz, rfl, ?_, by omega⟩, ?_⟩
        · rw [mmG_no EN.out (by omega) (fun i j hi hj => HK.out i j hi hj)] at h; cases h
        · have h1 := HG.out
          rw [mmP_end EN.out] at h1
          (repeat' (first | exact h1 | refine Bk.far ?_ (by show gz ≠ w.heap.size + 1 + 1; omega) _))
        · have hB := HBo.out
          (repeat' (first | (with_reducible exact Below.refl _ _) | (with_reducible assumption) | (with_reducible refine Below.alloc ?_ ?_ _) | (with_reducible refine Below.drew ?_) | (with_reducible refine below_drewN ?_ _) | (with_reducible refine Below.setCell ?_ ?_ _) | (with_reducible refine chain ?_ (by assumption) ?_) | omega | (simp; done) | (simp; omega)))
      | succ m9 =>
        have hlti : i < ra := by omega
        have i1 : (i : Int) < (ra : Int) := by omega
        have hBq := HBo.out.size
        obtain ⟨s, hs1, hs2, hs3, hs4⟩ := row_at EN.out hlti
        obtain ⟨sa, sa1, sa2, sa3, sa4⟩ := row_at HNN.out hlti
        have HS1 := hid hs1
        have HS2 := hid hs2
        have HS4 := hid hs4
        have SA1 := hid sa1
        have SA2 := hid sa2
        have SA4 := hid sa4
        clear hs1 hs2 hs4 sa1 sa2 sa4
        go_wp2_with (fail)
        refine (rw_i (s := s) HS1.out HS2.out (by omega) (by omega) (by omega) (by omega)).mono ?_
        rintro ee w6 ⟨rfl, hb6⟩
        have hz6 := hb6.size
        have HB6 := hid (chain HBo.out hb6 HBo.out.size)
        have HG6 := hid (HG.out.mono hb6)
        have HM6 : Hid (∃ ms : List D5, Bk w6 gm 37 ms ∧ ms.length = cb) := by show ∃ _, _; obtain ⟨ms, h1, h2⟩ := HMS.out; exact ⟨ms, h1.mono hb6, h2⟩
        clear HG HMS HBo
        have Ya := hid (Xa.out.mono hb6)
        have Yb := hid (Xb.out.mono hb6)
        have Yz := hid (Xz.out.mono hb6)
        have Yo := hid (Xo.out.mono hb6)
        clear Xa la ca0 ca1 ca2 Xb lb cb0 cb1 cb2 Xz lz cz0 cz1 cz2 Xo lo co0 co1 co2 fz
        have Xa := Ya
        have ca0 := Xa.out.c 0 rfl
        have ca1 := Xa.out.c 1 rfl
        have ca2 := Xa.out.c 2 rfl
        have la := Xa.out.lt
        have Xb := Yb
        have cb0 := Xb.out.c 0 rfl
        have cb1 := Xb.out.c 1 rfl
        have cb2 := Xb.out.c 2 rfl
        have lb := Xb.out.lt
        have Xz := Yz
        have cz0 := Xz.out.c 0 rfl
        have cz1 := Xz.out.c 1 rfl
        have cz2 := Xz.out.c 2 rfl
        have lz := Xz.out.lt
        have Xo := Yo
        have co0 := Xo.out.c 0 rfl
        have co1 := Xo.out.c 1 rfl
        have co2 := Xo.out.c 2 rfl
        have lo := Xo.out.lt
        have fz := Xz.out.f
        clear Ya Yb Yz Yo
        go_wp2_with (fail)
        refine (rw_i (s := sa) SA1.out SA2.out (by omega) hc2 a3 (by omega)).mono ?_
        rintro ee w7 ⟨rfl, hb7⟩
        have hz7 := hb7.size
        have HB7 := hid (chain HB6.out hb7 HB6.out.size)
        have HG7 := hid (HG6.out.mono hb7)
        have HM7 : Hid (∃ ms : List D5, Bk w7 gm 37 ms ∧ ms.length = cb) := by show ∃ _, _; obtain ⟨ms, h1, h2⟩ := HM6.out; exact ⟨ms, h1.mono hb7, h2⟩
        clear HG6 HM6 HB6
        have Ya := hid (Xa.out.mono hb7)
        have Yb := hid (Xb.out.mono hb7)
        have Yz := hid (Xz.out.mono hb7)
        have Yo := hid (Xo.out.mono hb7)
        clear Xa la ca0 ca1 ca2 Xb lb cb0 cb1 cb2 Xz lz cz0 cz1 cz2 Xo lo co0 co1 co2 fz
        have Xa := Ya
        have ca0 := Xa.out.c 0 rfl
        have ca1 := Xa.out.c 1 rfl
        have ca2 := Xa.out.c 2 rfl
        have la := Xa.out.lt
        have Xb := Yb
        have cb0 := Xb.out.c 0 rfl
        have cb1 := Xb.out.c 1 rfl
        have cb2 := Xb.out.c 2 rfl
        have lb := Xb.out.lt
        have Xz := Yz
        have cz0 := Xz.out.c 0 rfl
        have cz1 := Xz.out.c 1 rfl
        have cz2 := Xz.out.c 2 rfl
        have lz := Xz.out.lt
        have Xo := Yo
        have co0 := Xo.out.c 0 rfl
        have co1 := Xo.out.c 1 rfl
        have co2 := Xo.out.c 2 rfl
        have lo := Xo.out.lt
        have fz := Xz.out.f
        clear Ya Yb Yz Yo
        clear hb6 hb7
        go_wp2_with (fail)
        go_loopg [48] ca (fun q s1 wi => ∃ k : Nat, k + q = ca ∧ s1 = .int .i64 (k : Int) ∧ Hid (Bx wi (w.heap.size) 26 #[.int .i64 (ra : Int), .int .i64 (ca : Int), .slice (some ⟨g0, 0, none⟩) n cp]) ∧ Hid (Bx wi (w.heap.size + 1) 26 #[.int .i64 (ca : Int), .int .i64 (cb : Int), .slice (some ⟨h0, 0, none⟩) m cp']) ∧ Hid (Bx wi (w.heap.size + 1 + 1) 26 #[.int .i64 0, .int .i64 0, .slice none 0 0]) ∧ Hid (Bx wi (bo) 26 #[.int .i64 (ra : Int), .int .i64 (cb : Int), .slice (some ⟨gz, 0, none⟩) N N]) ∧ Hid (Bk wi gz 37 (tab N (mmP ca cb xs ys i k))) ∧ Hid (∃ ms : List D5, Bk wi gm 37 ms ∧ ms.length = cb) ∧ Hid (∀ j, j < cb → (mmT ca cb xs ys i j false k).2 = false) ∧ w5.heap.size ≤ wi.heap.size ∧ Hid (Below w.heap.size w wi))
        case atStart =>
          refine ⟨0, by omega, rfl, Xa, Xb, Xz, Xo, HG7, HM7, ?_, by omega, HB7⟩
          exact hid (fun j _ => rfl)
        case round =>
          clear HG7 HM7 HB7 Xa la ca0 ca1 ca2 Xb lb cb0 cb1 cb2 Xz lz cz0 cz1 cz2 Xo lo co0 co1 co2 fz
          obtain ⟨k, hk, rfl, Xa, Xb, Xz, Xo, HG, HMS, HK2, hsz2, HBo⟩ := hrel
          have ca0 := Xa.out.c 0 rfl
          have ca1 := Xa.out.c 1 rfl
          have ca2 := Xa.out.c 2 rfl
          have la := Xa.out.lt
          have cb0 := Xb.out.c 0 rfl
          have cb1 := Xb.out.c 1 rfl
          have cb2 := Xb.out.c 2 rfl
          have lb := Xb.out.lt
          have cz0 := Xz.out.c 0 rfl
          have cz1 := Xz.out.c 1 rfl
          have cz2 := Xz.out.c 2 rfl
          have lz := Xz.out.lt
          have fz := Xz.out.f
          have co0 := Xo.out.c 0 rfl
          have co1 := Xo.out.c 1 rfl
          have co2 := Xo.out.c 2 rfl
          have lo := Xo.out.lt
          cases gk with
          | zero =>
            obtain rfl : ca = k := by omega
            go_wp2_with (fail)
            go_roundg m9
            case measure => omega
            case rel =>
              refine ⟨i + 1, by omega, by go_num, Xa, Xb, Xz, Xo, ?_, HMS, ?_, hsz2, HBo⟩
              · show Bk _ _ _ _; rw [← mmP_row]; exact HG.out
              · exact hid (fun i' j h1 h2 => by
                  by_cases h : i' < i
                  · exact HK.out i' j h h2
                  · obtain rfl : i' = i := by omega
                    exact HK2.out j h2)
          | succ m2 =>
            have hltk : k < ca := by omega
            have k1 : (k : Int) < (ca : Int) := by omega
            have hBr := HBo.out.size
            obtain ⟨sb, sb1, sb2, sb3, sb4⟩ := row_at HMM.out hltk
            have hx := get_of (xs := xs) (q := sa + k) (by rw [HN.out]; omega)
            obtain ⟨x, hxe⟩ : ∃ x, x = xs.getD (sa + k) z5 := ⟨_, rfl⟩
            rw [← hxe] at hx
            have HKx := hid (all_get (okM_iff.1 HO.out).2.2.2 hx)
            have HX : Hid (xs.getD (i * ca + k) z5 = x) := by show _ = x; rw [hxe, SA4.out]
            have hC := HA.out.cx hx
            obtain ⟨q0, q1, q2, q3, q4⟩ := hC.at_ (HBo.out.block g0 h0A)
            simp only [Nat.add_mul] at q0 q1 q2 q3 q4
            have SB1 := hid sb1
            have SB2 := hid sb2
            have SB4 := hid sb4
            clear hC hx hxe sb1 sb2 sb4
            have hXl : ∀ k, k < ca → i * ca + k < xs.length := fun k hk => by rw [HN.out, HNN.out]; exact idx_lt hlti hk
            have hYl : ∀ j, j < cb → ∀ k, k < ca → k * cb + j < ys.length := fun j hj k hk => by rw [HM.out, HMM.out]; exact idx_lt hk hj
            have HXL := hid hXl
            have HYL := hid hYl
            clear hXl hYl
            by_cases hx0 : x = z5
            · subst hx0
              have r0 : wr.cell? ⟨g0, sa * 5 + k * 5, none⟩ = some (.int .i64 0) := q0
              have r1 : wr.cell? ⟨g0, sa * 5 + k * 5 + 1, none⟩ = some (.int .i64 0) := q1
              have r2 : wr.cell? ⟨g0, sa * 5 + k * 5 + 2, none⟩ = some (.int .i64 0) := q2
              have r3 : wr.cell? ⟨g0, sa * 5 + k * 5 + 3, none⟩ = some (.int .i64 0) := q3
              have r4 : wr.cell? ⟨g0, sa * 5 + k * 5 + 4, none⟩ = some (.int .i64 0) := q4
              clear q0 q1 q2 q3 q4
              go_wp2_with (fail)
              go_roundg m2
              case measure => omega
              case rel =>
                obtain ⟨e1, e2⟩ := mmP_skip (N := N) (by omega) hltk HX.out (okM_iff.1 HO.out).2.2.2 (okM_iff.1 HP.out).2.2.2 HXL.out HYL.out HK2.out
                refine ⟨k + 1, by omega, by go_num, (by show Bx _ _ _ _; exact Xa.out.alloc _), (by show Bx _ _ _ _; exact Xb.out.alloc _), (by show Bx _ _ _ _; exact Xz.out.alloc _), (by show Bx _ _ _ _; exact Xo.out.alloc _), ?_, ?_, hid e2, by (try simp only [World.size_alloc]); omega, hid (HBo.out.alloc hBr _)⟩
                · show Bk _ _ _ _; rw [← e1]; exact HG.out.alloc _
                · show ∃ _, _; obtain ⟨ms, h1, h2⟩ := HMS.out; exact ⟨ms, h1.alloc _, h2⟩
            · have HX0 : Hid (¬ x = z5) := hx0
              clear hx0
              go_upto_region 11 with (fail)
              obtain ⟨W, hW⟩ : ∃ W : World, W = wr.alloc (.cells #[.int .i64 x.a, .int .i64 x.b, .int .i64 x.c, .int .i64 x.d, .int .i64 x.e] 37) := ⟨_, rfl⟩
              have hbW : Below wr.heap.size wr W := by rw [hW]; exact (Below.refl _ _).alloc (Nat.le_refl _) _
              have XW0 : Bx W wr.heap.size 37 #[.int .i64 x.a, .int .i64 x.b, .int .i64 x.c, .int .i64 x.d, .int .i64 x.e] := by rw [hW]; exact Bx.new rfl
              have XW := hid XW0
              have hzW : W.heap.size = wr.heap.size + 1 := by rw [hW]; simp
              have hzW1 : wr.heap.size < W.heap.size := by omega
              rw [← hW]
              clear hW hzW XW0 q0 q1 q2 q3 q4
              have HBW := hid (chain HBo.out hbW hBr)
              have HGW := hid (HG.out.mono hbW)
              obtain ⟨ms, hms1, hms2⟩ := HMS.out
              have lgm := hms1.lt
              have lgz := HG.out.lt
              have HMW := hid (hms1.mono hbW)
              have HML := hid hms2
              clear hms1 hms2 HMS HG HBo
              have Ya := hid (Xa.out.mono hbW)
              have Yb := hid (Xb.out.mono hbW)
              have Yz := hid (Xz.out.mono hbW)
              have Yo := hid (Xo.out.mono hbW)
              clear Xa la ca0 ca1 ca2 Xb lb cb0 cb1 cb2 Xz lz cz0 cz1 cz2 Xo lo co0 co1 co2 fz
              have Xa := Ya
              have ca0 := Xa.out.c 0 rfl
              have ca1 := Xa.out.c 1 rfl
              have ca2 := Xa.out.c 2 rfl
              have la := Xa.out.lt
              have Xb := Yb
              have cb0 := Xb.out.c 0 rfl
              have cb1 := Xb.out.c 1 rfl
              have cb2 := Xb.out.c 2 rfl
              have lb := Xb.out.lt
              have Xz := Yz
              have cz0 := Xz.out.c 0 rfl
              have cz1 := Xz.out.c 1 rfl
              have cz2 := Xz.out.c 2 rfl
              have lz := Xz.out.lt
              have Xo := Yo
              have co0 := Xo.out.c 0 rfl
              have co1 := Xo.out.c 1 rfl
              have co2 := Xo.out.c 2 rfl
              have lo := Xo.out.lt
              have fz := Xz.out.f
              clear Ya Yb Yz Yo
              have xw0 := XW.out.c 0 rfl
              have xw1 := XW.out.c 1 rfl
              have xw2 := XW.out.c 2 rfl
              have xw3 := XW.out.c 3 rfl
              have xw4 := XW.out.c 4 rfl
              clear hbW
              go_cut [55] (fun s55 wx => s55 = .bool false ∧ wx = W)
              case first =>
                go_wp2_with (fail)
                all_goals go_meet
                all_goals first | exact ⟨rfl, rfl⟩ | exact absurd (z5_of (by assumption) (by assumption) (by assumption) (by assumption) (by assumption)) HX0.out
              case rest =>
                obtain ⟨rfl, rfl⟩ := hcut
                clear xw0 xw1 xw2 xw3 xw4
                go_wp2_with (fail)
                refine (rw_i (i := k) (s := sb) SB1.out SB2.out (by omega) hc4 b3 (by omega)).mono ?_
                rintro ee w8 ⟨rfl, hb8⟩
                have hz8 := hb8.size
                have hB8 : Below w.heap.size w w8 := chain HBW.out hb8 HBW.out.size
                have hG8 := HGW.out.mono hb8
                have hM8 := HMW.out.mono hb8
                have hr8 : Rd w8 (some ⟨h0, sb * 5, none⟩) ((ys.drop sb).take cb) := by
                  have h9 := ((HB.out.mono hB8).sub sb).take cb
                  rw [Nat.zero_add] at h9
                  exact h9
                have hl8 : ((ys.drop sb).take cb).length = cb := by rw [List.length_take, List.length_drop, HM.out]; omega
                have X8 := hid (XW.out.mono hb8)
                have HG8 := hid hG8
                have HM8 := hid hM8
                have HR8 := hid hr8
                have HL8 := hid hl8
                have HB8 := hid hB8
                clear hG8 hM8 hr8 hl8 hB8 XW HGW HMW HBW
                have Ya := hid (Xa.out.mono hb8)
                have Yb := hid (Xb.out.mono hb8)
                have Yz := hid (Xz.out.mono hb8)
                have Yo := hid (Xo.out.mono hb8)
                clear Xa la ca0 ca1 ca2 Xb lb cb0 cb1 cb2 Xz lz cz0 cz1 cz2 Xo lo co0 co1 co2 fz
                have Xa := Ya
                have ca0 := Xa.out.c 0 rfl
                have ca1 := Xa.out.c 1 rfl
                have ca2 := Xa.out.c 2 rfl
                have la := Xa.out.lt
                have Xb := Yb
                have cb0 := Xb.out.c 0 rfl
                have cb1 := Xb.out.c 1 rfl
                have cb2 := Xb.out.c 2 rfl
                have lb := Xb.out.lt
                have Xz := Yz
                have cz0 := Xz.out.c 0 rfl
                have cz1 := Xz.out.c 1 rfl
                have cz2 := Xz.out.c 2 rfl
                have lz := Xz.out.lt
                have Xo := Yo
                have co0 := Xo.out.c 0 rfl
                have co1 := Xo.out.c 1 rfl
                have co2 := Xo.out.c 2 rfl
                have lo := Xo.out.lt
                have fz := Xz.out.f
                clear Ya Yb Yz Yo
                clear hb8
                go_wp2_with (refine wpList_copy5 rfl (.tmp 56) (.tmp 59) 24 24 rfl 37 Try.underlying24 HS5.out gm 0 0 cb cb h0 (sb * 5) cb rfl rfl rfl ms ((ys.drop sb).take cb) 37 HM8.out HR8.out HL8.out (by rw [HML.out]; omega) w.heap.size w HB8.out (by omega) ?_; intro w9 hK9 hb9 hk9 hz9; have HZ9 : w8.heap.size ≤ w9.heap.size := (by omega); clear hz9; have HK9 := hid hK9; have HB9 := hid hb9; have HE9 := hid hk9; have x90 := (World.cell?_of_block (a := ⟨wr.heap.size, 0, none⟩) (hk9 wr.heap.size (by omega))).trans (X8.out.c 0 rfl); have x91 := (World.cell?_of_block (a := ⟨wr.heap.size, 1, none⟩) (hk9 wr.heap.size (by omega))).trans (X8.out.c 1 rfl); have x92 := (World.cell?_of_block (a := ⟨wr.heap.size, 2, none⟩) (hk9 wr.heap.size (by omega))).trans (X8.out.c 2 rfl); have x93 := (World.cell?_of_block (a := ⟨wr.heap.size, 3, none⟩) (hk9 wr.heap.size (by omega))).trans (X8.out.c 3 rfl); have x94 := (World.cell?_of_block (a := ⟨wr.heap.size, 4, none⟩) (hk9 wr.heap.size (by omega))).trans (X8.out.c 4 rfl); clear hK9 hb9 hk9)
                have Ya := hid (show Bx _ _ _ _ from (HE9.out _ (by omega)).trans Xa.out)
                have Yb := hid (show Bx _ _ _ _ from (HE9.out _ (by omega)).trans Xb.out)
                have Yz := hid (show Bx _ _ _ _ from (HE9.out _ (by omega)).trans Xz.out)
                have Yo := hid (show Bx _ _ _ _ from (HE9.out _ (by omega)).trans Xo.out)
                clear Xa la ca0 ca1 ca2 Xb lb cb0 cb1 cb2 Xz lz cz0 cz1 cz2 Xo lo co0 co1 co2 fz
                have Xa := Ya
                have ca0 := Xa.out.c 0 rfl
                have ca1 := Xa.out.c 1 rfl
                have ca2 := Xa.out.c 2 rfl
                have la := Xa.out.lt
                have Xb := Yb
                have cb0 := Xb.out.c 0 rfl
                have cb1 := Xb.out.c 1 rfl
                have cb2 := Xb.out.c 2 rfl
                have lb := Xb.out.lt
                have Xz := Yz
                have cz0 := Xz.out.c 0 rfl
                have cz1 := Xz.out.c 1 rfl
                have cz2 := Xz.out.c 2 rfl
                have lz := Xz.out.lt
                have Xo := Yo
                have co0 := Xo.out.c 0 rfl
                have co1 := Xo.out.c 1 rfl
                have co2 := Xo.out.c 2 rfl
                have lo := Xo.out.lt
                have fz := Xz.out.f
                clear Ya Yb Yz Yo
                have HG9 := hid (show Bk _ _ _ _ from (HE9.out gz (by omega)).trans HG8.out)
                have e9 : ms.take 0 ++ ((ys.drop sb).take cb ++ ms.drop (0 + cb)) = tab cb (fun q => ((ys.drop sb).take cb).getD q z5) := by
                  have hd9 : ms.drop (0 + cb) = [] := List.drop_of_length_le (by rw [HML.out]; omega)
                  rw [List.take_zero, List.nil_append, hd9, List.append_nil]
                  conv => lhs; rw [list_tab ((ys.drop sb).take cb), HL8.out]
                have hK9 := HK9.out
                rw [e9] at hK9
                have hsr := srow (k := 0) (m := cb) (cs := cb) (N := cb) (x := x) hK9 (by omega) (by omega) (Nat.le_refl _) (by omega) (fun r hr => by
                  show (((ys.drop sb).take cb).getD (0 + r) z5).ok = true
                  rw [Nat.zero_add, row_getD hr]
                  exact all_get (okM_iff.1 HP.out).2.2.2 (get_of (by rw [HM.out]; omega))) HKx.out
                rw [Nat.zero_mul] at hsr
                have HSR := hid hsr
                clear hsr hK9 e9 HK9 HE9 HG8 HM8 HR8 X8
                refine HSR.out.mono ?_
                rintro ee w10 ⟨hAR1, hAR2, hg10⟩
                have hz10 := hg10.size
                have HB10 := hid (Below.grown HB9.out hg10 HB9.out.size (fun q e => by simp only [Option.some.injEq] at e; omega))
                have HG10 := hid (HG9.out.at_ (hg10.block gz HG9.out.lt (fun e => by simp only [Option.some.injEq] at e; omega)))
                have Ya := hid (Xa.out.grown hg10 (by intro e; simp only [Option.some.injEq] at e; omega))
                have Yb := hid (Xb.out.grown hg10 (by intro e; simp only [Option.some.injEq] at e; omega))
                have Yz := hid (Xz.out.grown hg10 (by intro e; simp only [Option.some.injEq] at e; omega))
                have Yo := hid (Xo.out.grown hg10 (by intro e; simp only [Option.some.injEq] at e; omega))
                clear Xa la ca0 ca1 ca2 Xb lb cb0 cb1 cb2 Xz lz cz0 cz1 cz2 Xo lo co0 co1 co2 fz
                have Xa := Ya
                have ca0 := Xa.out.c 0 rfl
                have ca1 := Xa.out.c 1 rfl
                have ca2 := Xa.out.c 2 rfl
                have la := Xa.out.lt
                have Xb := Yb
                have cb0 := Xb.out.c 0 rfl
                have cb1 := Xb.out.c 1 rfl
                have cb2 := Xb.out.c 2 rfl
                have lb := Xb.out.lt
                have Xz := Yz
                have cz0 := Xz.out.c 0 rfl
                have cz1 := Xz.out.c 1 rfl
                have cz2 := Xz.out.c 2 rfl
                have lz := Xz.out.lt
                have Xo := Yo
                have co0 := Xo.out.c 0 rfl
                have co1 := Xo.out.c 1 rfl
                have co2 := Xo.out.c 2 rfl
                have lo := Xo.out.lt
                have fz := Xz.out.f
                clear Ya Yb Yz Yo
                clear hg10 HSR HG9 HB9 x90 x91 x92 x93 x94
                have prd : ∀ j, j < cb → (mulS false x ((fun q => ((ys.drop sb).take cb).getD q z5) (0 + j))) = mulS false x (ys.getD (k * cb + j) z5) := fun j hj => by
                  show mulS false x (((ys.drop sb).take cb).getD (0 + j) z5) = _
                  rw [Nat.zero_add, row_getD hj, SB4.out]
                have PRD := hid prd
                clear prd
                cases hany : anyB cb (mulH (fun q => ((ys.drop sb).take cb).getD q z5) x 0)
                · obtain ⟨rfl, hK10⟩ := hAR2 hany
                  have HK10 := hid hK10
                  have HNY := hid hany
                  clear hAR1 hAR2 hany hK10
                  go_wp2_with (fail)
                  have har := arow (k := s) (m := cb) (cs := cb) (c' := cb) (N := N) (A := some ⟨gm, 0, none⟩) HG10.out HK10.out.rd (tab_len _ _) (by omega) n32 (Nat.le_refl _) (by omega) (Nat.le_refl _) (by omega) (fun a ha => by
                      simp only [Option.some.injEq] at ha; subst ha; show gm ≠ gz; omega) (fun r hr => by
                      rw [HS4.out]; exact mmP_ok hr (okM_iff.1 HO.out).2.2.2 (okM_iff.1 HP.out).2.2.2 HXL.out (HYL.out r hr) (Nat.le_of_lt hltk)) (allB_tab (fun r hr => by
                      unfold mulP
                      rw [if_pos (by omega)]
                      refine mulS_ok HKx.out ?_
                      show (((ys.drop sb).take cb).getD r z5).ok = true
                      rw [row_getD hr]
                      exact all_get (okM_iff.1 HP.out).2.2.2 (get_of (by rw [HM.out]; omega))))
                  have HAR := hid har
                  clear har
                  refine HAR.out.mono ?_
                  rintro ee w11 ⟨hAR1, hAR2, hg11⟩
                  have hz11 := hg11.size
                  have HB11 := hid (Below.grown HB10.out hg11 HB10.out.size (fun q e => by simp only [Option.some.injEq] at e; omega))
                  have HM11 := hid (HK10.out.at_ (hg11.block gm HK10.out.lt (fun e => by simp only [Option.some.injEq] at e; omega)))
                  have Ya := hid (Xa.out.grown hg11 (by intro e; simp only [Option.some.injEq] at e; omega))
                  have Yb := hid (Xb.out.grown hg11 (by intro e; simp only [Option.some.injEq] at e; omega))
                  have Yz := hid (Xz.out.grown hg11 (by intro e; simp only [Option.some.injEq] at e; omega))
                  have Yo := hid (Xo.out.grown hg11 (by intro e; simp only [Option.some.injEq] at e; omega))
                  clear Xa la ca0 ca1 ca2 Xb lb cb0 cb1 cb2 Xz lz cz0 cz1 cz2 Xo lo co0 co1 co2 fz
                  have Xa := Ya
                  have ca0 := Xa.out.c 0 rfl
                  have ca1 := Xa.out.c 1 rfl
                  have ca2 := Xa.out.c 2 rfl
                  have la := Xa.out.lt
                  have Xb := Yb
                  have cb0 := Xb.out.c 0 rfl
                  have cb1 := Xb.out.c 1 rfl
                  have cb2 := Xb.out.c 2 rfl
                  have lb := Xb.out.lt
                  have Xz := Yz
                  have cz0 := Xz.out.c 0 rfl
                  have cz1 := Xz.out.c 1 rfl
                  have cz2 := Xz.out.c 2 rfl
                  have lz := Xz.out.lt
                  have Xo := Yo
                  have co0 := Xo.out.c 0 rfl
                  have co1 := Xo.out.c 1 rfl
                  have co2 := Xo.out.c 2 rfl
                  have lo := Xo.out.lt
                  have fz := Xz.out.f
                  clear Ya Yb Yz Yo
                  clear hg11 HAR HG10 HK10 HB10
                  obtain ⟨st1, st2⟩ := mmP_step (N := N) (s := s) (prods := tab cb (mulP (fun q => ((ys.drop sb).take cb).getD q z5) x 0 cb)) (x := x) (ca := ca) (xs := xs) (ys := ys) (i := i) (k := k) (cb := cb) (by omega) HS4.out HX.out HK2.out (fun j hj => by
                      have h9 := anyB_get HNY.out hj
                      unfold mulH at h9
                      rw [PRD.out j hj] at h9; exact h9) (fun j hj => by
                      rw [getD_of (tab_get hj)]
                      unfold mulP
                      rw [if_pos (by omega)]
                      have h9 := PRD.out j hj
                      rw [Nat.zero_add] at h9
                      rw [h9])
                  cases hany2 : anyB cb (addH (mmP ca cb xs ys i k) (tab cb (mulP (fun q => ((ys.drop sb).take cb).getD q z5) x 0 cb)) s)
                  · obtain ⟨rfl, hK11⟩ := hAR2 hany2
                    rw [st1] at hK11
                    have HK11 := hid hK11
                    have HK3 : Hid (∀ j, j < cb → (mmT ca cb xs ys i j false (k + 1)).2 = false) := by
                      show ∀ j, _
                      intro j hj
                      rw [st2 j hj]; exact anyB_get hany2 hj
                    clear hAR1 hAR2 hany2 hK11 st1 st2
                    go_wp2_with (fail)
                    go_roundg m2
                    case measure => omega
                    case rel => exact ⟨k + 1, by omega, by go_num, Xa, Xb, Xz, Xo, HK11, hid ⟨_, HM11.out, tab_len _ _⟩, HK3, by omega, HB11⟩
                  · obtain rfl := hAR1 hany2
                    have bad : anyB N (mmG ca cb xs ys) = true := by
                      obtain ⟨j, hj, hjb⟩ := anyB_ex hany2
                      rw [← st2 j hj] at hjb
                      exact mmG_of EN.out hlti hj hltk hjb
                    have HBX := hid HB11.out
                    clear HB11 HM11
                    have BAD := hid bad
                    have RZ : Bx _ _ _ _ := Xz.out
                    have hBX := HBX.out
                    have hBXs := hBX.size
                    clear bad
                    go_upto_region 14 with (fail)
                    go_cut [4, 5] (fun s4 s5 wx => s4 = .pointer (some ⟨w.heap.size + 1 + 1, 0, none⟩) ∧ s5 = .bool false ∧ wx.cell? ⟨w.heap.size + 1 + 1, 0, none⟩ = some (.int .i64 0) ∧ wx.cell? ⟨w.heap.size + 1 + 1, 1, none⟩ = some (.int .i64 0) ∧ wx.cell? ⟨w.heap.size + 1 + 1, 2, none⟩ = some (.slice none 0 0) ∧ Hid (Below w.heap.size w wx))
                    case first =>
                      have RZ3 := ((RZ.set (i := 0) (u := .int .i64 0) rfl).set (i := 1) (u := .int .i64 0) rfl).set (i := 2) (u := .slice none 0 0) rfl
                      go_wp2_with (fail)
                      go_meet
                      refine ⟨rfl, rfl, RZ3.c 0 rfl, RZ3.c 1 rfl, RZ3.c 2 rfl, ?_⟩
                      show Below _ _ _
                      (repeat' (first | (with_reducible exact Below.refl _ _) | (with_reducible assumption) | (with_reducible refine Below.alloc ?_ ?_ _) | (with_reducible refine Below.drew ?_) | (with_reducible refine below_drewN ?_ _) | (with_reducible refine Below.setCell ?_ ?_ _) | (with_reducible refine chain ?_ (by assumption) ?_) | omega | (simp; done) | (simp; omega)))
                    case rest =>
                      obtain ⟨rfl, rfl, y0, y1, y2, HBc⟩ := hcut
                      clear RZ hBX hBXs HBX Xa la ca0 ca1 ca2 Xb lb cb0 cb1 cb2 Xz lz cz0 cz1 cz2 Xo lo co0 co1 co2 fz
                      apply_assumption
                      refine wp_ret ?_
                      simp only [Exit.inBlock, Exit.then]
                      refine bodyPost_ret (v := mt 0 0 none 0 0 false) (by simp only [results, Try.results20]; go_simp; done) rfl ⟨fun _ => rfl, fun h => ?_, HBc.out⟩
                      rw [BAD.out] at h; cases h
                · obtain rfl := hAR1 hany
                  have bad : anyB N (mmG ca cb xs ys) = true := by
                    obtain ⟨j, hj, hjb⟩ := anyB_ex hany
                    unfold mulH at hjb
                    rw [PRD.out j hj] at hjb
                    exact mmG_mul EN.out hlti hj hltk HX.out (HK2.out j hj) hjb
                  have HBX := hid HB10.out
                  clear HB10 HG10
                  have BAD := hid bad
                  have RZ : Bx _ _ _ _ := Xz.out
                  have hBX := HBX.out
                  have hBXs := hBX.size
                  clear bad
                  go_upto_region 14 with (fail)
                  go_cut [4, 5] (fun s4 s5 wx => s4 = .pointer (some ⟨w.heap.size + 1 + 1, 0, none⟩) ∧ s5 = .bool false ∧ wx.cell? ⟨w.heap.size + 1 + 1, 0, none⟩ = some (.int .i64 0) ∧ wx.cell? ⟨w.heap.size + 1 + 1, 1, none⟩ = some (.int .i64 0) ∧ wx.cell? ⟨w.heap.size + 1 + 1, 2, none⟩ = some (.slice none 0 0) ∧ Hid (Below w.heap.size w wx))
                  case first =>
                    have RZ3 := ((RZ.set (i := 0) (u := .int .i64 0) rfl).set (i := 1) (u := .int .i64 0) rfl).set (i := 2) (u := .slice none 0 0) rfl
                    go_wp2_with (fail)
                    go_meet
                    refine ⟨rfl, rfl, RZ3.c 0 rfl, RZ3.c 1 rfl, RZ3.c 2 rfl, ?_⟩
                    show Below _ _ _
                    (repeat' (first | (with_reducible exact Below.refl _ _) | (with_reducible assumption) | (with_reducible refine Below.alloc ?_ ?_ _) | (with_reducible refine Below.drew ?_) | (with_reducible refine below_drewN ?_ _) | (with_reducible refine Below.setCell ?_ ?_ _) | (with_reducible refine chain ?_ (by assumption) ?_) | omega | (simp; done) | (simp; omega)))
                  case rest =>
                    obtain ⟨rfl, rfl, y0, y1, y2, HBc⟩ := hcut
                    clear RZ hBX hBXs HBX Xa la ca0 ca1 ca2 Xb lb cb0 cb1 cb2 Xz lz cz0 cz1 cz2 Xo lo co0 co1 co2 fz
                    apply_assumption
                    refine wp_ret ?_
                    simp only [Exit.inBlock, Exit.then]
                    refine bodyPost_ret (v := mt 0 0 none 0 0 false) (by simp only [results, Try.results20]; go_simp; done) rfl ⟨fun _ => rfl, fun h => ?_, HBc.out⟩
                    rw [BAD.out] at h; cases h

end Go.Proofs.Ytncgccpkbneagaa
namespace Go.Proofs.Ytncgccpkbneagaa
open Go.RowKit RM
set_option linter.unusedVariables false
set_option linter.unusedSimpArgs false
attribute [local irreducible] World.setCell

end Go.Proofs.Ytncgccpkbneagaa
namespace Go.Proofs.Ytncgccpkbneagaa
open Go.RowKit RM
set_option linter.unusedVariables false
set_option linter.unusedSimpArgs false
attribute [local irreducible] World.setCell

end Go.Proofs.Ytncgccpkbneagaa
namespace Go.Proofs.Ytncgccpkbneagaa
open Go.RowKit RM
set_option linter.unusedVariables false
set_option linter.unusedSimpArgs false
attribute [local irreducible] World.setCell

set_option maxRecDepth 100000 in
set_option maxHeartbeats 8000000 in
theorem mumo {ra ca cb : Nat} {g0 h0 o0 n m cp cp' : Nat} {xs ys : List D5} {w : World} (hA : Rd w (some ⟨g0, 0, none⟩) xs) (hB : Rd w (some ⟨h0, o0, none⟩) ys) (hn : xs.length = n) (hm : ys.length = m) (hok : okM (ra : Int) (ca : Int) n xs = true) (hok2 : okM (ca : Int) (cb : Int) m ys = true) {N gc : Nat} (hN9 : N = ra * cb) (hc0 : Bx w gc 99 #[.bool false]) (hg : g0 ≠ gc) (hh : h0 ≠ gc) :
    Calls Try.prog 76 #[.pointer (some ⟨gc, 0, none⟩), mv (ra : Int) (ca : Int) (some ⟨g0, 0, none⟩) n cp, mv (ca : Int) (cb : Int) (some ⟨h0, o0, none⟩) m cp'] w fun ee w' => KM w w' ee gc ra cb N (mmF ca cb xs ys) (mmG ca cb xs ys) := by
  obtain ⟨i0, hi0, hu0, hu1, hu2⟩ := info_parts infoD
  obtain ⟨hnn, a1, a2, a3, a4, a5⟩ := okM_nat2 hok
  obtain ⟨hmm, -, -, b3, b4, b5⟩ := okM_nat2 hok2
  have n32 : N ≤ 1024 := by rw [hN9]; exact Nat.mul_le_mul a2 b4
  have EN := hid hN9
  have XC := hid hc0
  have hgc := hc0.lt
  clear hN9 hc0
  have HA := hid hA
  have HB := hid hB
  have HN := hid hn
  have HM := hid hm
  have HO := hid hok
  have HP := hid hok2
  have HNN := hid hnn
  have HMM := hid hmm
  clear hA hB hn hm hok hok2 hnn hmm
  obtain ⟨F, hF⟩ : ∃ F, F = mmF ca cb xs ys := ⟨_, rfl⟩
  obtain ⟨G, hG⟩ : ∃ G, G = mmG ca cb xs ys := ⟨_, rfl⟩
  have HF := hid hF
  have HG := hid hG
  rw [← hF, ← hG]
  clear hF hG
  go_enter Try.func76, Try.ntmps76
  go_wp2_with (fail)
  go_loopg [8] ra (fun q s1 wr => ∃ (i : Nat) (v : Value) (z : Bool) (zs : List D5), i + q = ra ∧ s1 = .int .i64 (i : Int) ∧ Hid (Bx wr (w.heap.size) 26 #[.int .i64 (ra : Int), .int .i64 (ca : Int), .slice (some ⟨g0, 0, none⟩) n cp]) ∧ Hid (Bx wr (w.heap.size + 1) 26 #[.int .i64 (ca : Int), .int .i64 (cb : Int), .slice (some ⟨h0, o0, none⟩) m cp']) ∧ Hid (Bx wr (w.heap.size + 1 + 1) 26 #[.int .i64 0, .int .i64 0, .slice none 0 0]) ∧ Hid (Bx wr (w.heap.size + 1 + 1 + 1) 26 #[.int .i64 (ra : Int), .int .i64 (cb : Int), v]) ∧ Hid (Bx wr (gc) 99 #[.bool z]) ∧ Hid (Own5 wr (w.heap.size + 1 + 1 + 1 + 1) 37 v zs) ∧ Hid (Sofar z zs (i * cb) F G) ∧ w.heap.size + 1 + 1 + 1 + 1 ≤ wr.heap.size ∧ Hid (Below w.heap.size (w.setCell ⟨gc, 0, none⟩ (.bool z)) wr))
  case atStart =>
    have RC := XC.out
    refine ⟨0, .slice none 0 0, false, [], by omega, rfl, (by show Bx _ _ _ _; exact (((Bx.new rfl).alloc _).alloc _).alloc _), (by show Bx _ _ _ _; exact ((Bx.new (by simp)).alloc _).alloc _), (by show Bx _ _ _ _; exact (Bx.new (by simp)).alloc _), (by show Bx _ _ _ _; exact Bx.new (by simp)), (by show Bx _ _ _ _; exact (((RC.alloc _).alloc _).alloc _).alloc _), Own5.nil _ _ _, ?_, by simp, ?_⟩
    · show Sofar _ _ _ _ _
      rw [Nat.zero_mul]; exact Sofar.start _ _
    · show Below _ _ _
      have h0 := bad_0 (B := w.heap.size) (RC.c 0 rfl)
      exact (((h0.alloc (Nat.le_refl _) _).alloc (by simp) _).alloc (by simp; omega) _).alloc (by simp; omega) _
  case round =>
    obtain ⟨i, v, z, zs, hi, rfl, Xa, Xb, Xz, Xo, Xf, HOw, HS, hsz, HBo⟩ := hrel
    clear XC
    have hBq := HBo.out.size
    rw [World.size_setCell] at hBq
    have ca0 := Xa.out.c 0 rfl
    have ca1 := Xa.out.c 1 rfl
    have ca2 := Xa.out.c 2 rfl
    have la := Xa.out.lt
    have cb0 := Xb.out.c 0 rfl
    have cb1 := Xb.out.c 1 rfl
    have cb2 := Xb.out.c 2 rfl
    have lb := Xb.out.lt
    have cz0 := Xz.out.c 0 rfl
    have cz1 := Xz.out.c 1 rfl
    have cz2 := Xz.out.c 2 rfl
    have lz := Xz.out.lt
    have fz := Xz.out.f
    have co0 := Xo.out.c 0 rfl
    have co1 := Xo.out.c 1 rfl
    have co2 := Xo.out.c 2 rfl
    have lo := Xo.out.lt
    have fo := Xo.out.f
    have cf0 := Xf.out.c 0 rfl
    have lf := Xf.out.lt
    have ff := Xf.out.f
    cases gk with
    | zero =>
      obtain rfl : i = ra := by omega
      obtain ⟨Bo, cq, hv, hRd, hBa⟩ := HOw.out.form
      rw [HS.out.1, ← EN.out] at hv
      subst hv
      have HBa := hid hBa
      have HRd := hid hRd
      clear hRd hBa
      go_wp2_with (fail)
      refine bodyPost_ret (v := mv (i : Int) (cb : Int) Bo N cq) (by first | (simp [results, Try.results76, go_sem, *]; done) | (simp (disch := (first | omega | (simp; done) | (simp; omega))) [results, Try.results76, go_sem, *]; done) | (simp only [results, Try.results76]; go_simp; done)) rfl (KM.i (z := z) (zs := zs) rfl ?_ ?_ ?_ ?_)
      · rw [EN.out]; exact HS.out
      · (repeat' (first | exact HRd.out | refine Rd.far ?_ (fun a ha => by have := (HBa.out a ha).1; show _ ≠ w.heap.size + 1 + 1; omega) _))
      · intro a ha; have := (HBa.out a ha).1; omega
      · have hB := HBo.out
        (repeat' (first | (with_reducible exact Below.refl _ _) | (with_reducible assumption) | (with_reducible refine Below.alloc ?_ ?_ _) | (with_reducible refine Below.drew ?_) | (with_reducible refine below_drewN ?_ _) | (with_reducible refine Below.setCell ?_ ?_ _) | (with_reducible refine chain ?_ (by assumption) ?_) | omega | (simp; done) | (simp; omega)))
    | succ m9 =>
      have hlti : i < ra := by omega
      have i1 : (i : Int) < (ra : Int) := by omega
      go_wp2_with (fail)
      go_loopg [9] cb (fun q s1 wr => ∃ (j : Nat) (v : Value) (z : Bool) (zs : List D5), j + q = cb ∧ s1 = .int .i64 (j : Int) ∧ Hid (Bx wr (w.heap.size) 26 #[.int .i64 (ra : Int), .int .i64 (ca : Int), .slice (some ⟨g0, 0, none⟩) n cp]) ∧ Hid (Bx wr (w.heap.size + 1) 26 #[.int .i64 (ca : Int), .int .i64 (cb : Int), .slice (some ⟨h0, o0, none⟩) m cp']) ∧ Hid (Bx wr (w.heap.size + 1 + 1) 26 #[.int .i64 0, .int .i64 0, .slice none 0 0]) ∧ Hid (Bx wr (w.heap.size + 1 + 1 + 1) 26 #[.int .i64 (ra : Int), .int .i64 (cb : Int), v]) ∧ Hid (Bx wr (gc) 99 #[.bool z]) ∧ Hid (Own5 wr (w.heap.size + 1 + 1 + 1 + 1) 37 v zs) ∧ Hid (Sofar z zs (i * cb + j) F G) ∧ w.heap.size + 1 + 1 + 1 + 1 ≤ wr.heap.size ∧ Hid (Below w.heap.size (w.setCell ⟨gc, 0, none⟩ (.bool z)) wr))
      case atStart => exact ⟨0, v, z, zs, by omega, rfl, Xa, Xb, Xz, Xo, Xf, HOw, HS, hsz, HBo⟩
      case round =>
        clear Xa la ca0 ca1 ca2 Xb lb cb0 cb1 cb2 Xz lz cz0 cz1 cz2 fz Xo lo co0 co1 co2 fo Xf lf cf0 ff HOw HS hsz HBo hBq
        obtain ⟨j, v, z, zs, hj, rfl, Xa, Xb, Xz, Xo, Xf, HOw, HS, hsz, HBo⟩ := hrel
        have hBq := HBo.out.size
        rw [World.size_setCell] at hBq
        have ca0 := Xa.out.c 0 rfl
        have ca1 := Xa.out.c 1 rfl
        have ca2 := Xa.out.c 2 rfl
        have la := Xa.out.lt
        have cb0 := Xb.out.c 0 rfl
        have cb1 := Xb.out.c 1 rfl
        have cb2 := Xb.out.c 2 rfl
        have lb := Xb.out.lt
        have cz0 := Xz.out.c 0 rfl
        have cz1 := Xz.out.c 1 rfl
        have cz2 := Xz.out.c 2 rfl
        have lz := Xz.out.lt
        have fz := Xz.out.f
        have co0 := Xo.out.c 0 rfl
        have co1 := Xo.out.c 1 rfl
        have co2 := Xo.out.c 2 rfl
        have lo := Xo.out.lt
        have fo := Xo.out.f
        have cf0 := Xf.out.c 0 rfl
        have lf := Xf.out.lt
        have ff := Xf.out.f
        cases gk with
        | zero =>
          obtain rfl : j = cb := by omega
          go_wp2_with (fail)
          go_roundg m9
          case measure => omega
          case rel =>
            refine ⟨i + 1, v, z, zs, by omega, by go_num, Xa, Xb, Xz, Xo, Xf, HOw, ?_, hsz, HBo⟩
            show Sofar _ _ _ _ _
            rw [Nat.add_mul, Nat.one_mul]; exact HS.out
        | succ m2 =>
          obtain ⟨wo, rfl⟩ : ∃ wo, wo = wr := ⟨_, rfl⟩
          have hltj : j < cb := by omega
          have j1 : (j : Int) < (cb : Int) := by omega
          have hgw : gc < wo.heap.size := by omega
          go_upto_block 4 with (fail)
          go_cut [] (fun wx => ∃ (s : D5) (z' : Bool), Hid (mmT ca cb xs ys i j z ca = (s, z')) ∧ Hid (s.ok = true) ∧ Hid (Bx wx wo.heap.size 37 #[.int .i64 s.a, .int .i64 s.b, .int .i64 s.c, .int .i64 s.d, .int .i64 s.e]) ∧ Hid (Below wo.heap.size (wo.setCell ⟨gc, 0, none⟩ (.bool z')) wx))
          case first =>
            have hBW0 : Below wo.heap.size (wo.setCell ⟨gc, 0, none⟩ (.bool z)) wo := bad_0 (Xf.out.c 0 rfl)
            have HW0 := hid hBW0
            clear hBW0
            go_wp2_with (fail)
            go_loopg [11] ca (fun q s1 wk => ∃ (k : Nat) (s : D5) (z' : Bool), k + q = ca ∧ s1 = .int .i64 (k : Int) ∧ Hid (mmT ca cb xs ys i j z k = (s, z')) ∧ Hid (s.ok = true) ∧ Hid (Bx wk wo.heap.size 37 #[.int .i64 s.a, .int .i64 s.b, .int .i64 s.c, .int .i64 s.d, .int .i64 s.e]) ∧ Hid (Below wo.heap.size (wo.setCell ⟨gc, 0, none⟩ (.bool z')) wk))
            case atStart =>
              refine ⟨0, z5, z, by omega, rfl, rfl, z5_ok, ?_, ?_⟩
              · show Bx _ _ _ _; first | exact Bx.new rfl | exact Bx.set5 _ (x := z5) (Bx.new rfl)
              · show Below _ _ _; exact HW0.out.alloc (Nat.le_refl _) _
            case round =>
              obtain ⟨k, s, z', hk, rfl, HT, HKs, XS, HBk⟩ := hrel
              clear HW0
              have hBk := HBk.out.size
              rw [World.size_setCell] at hBk
              have ea1 := kbad HBk.out (by omega) (Xa.out.c 1 rfl)
              have ea2 := kbad HBk.out (by omega) (Xa.out.c 2 rfl)
              have eb1 := kbad HBk.out (by omega) (Xb.out.c 1 rfl)
              have eb2 := kbad HBk.out (by omega) (Xb.out.c 2 rfl)
              have XF := hid (Xf.out.bad HBk.out)
              have ef0 := XF.out.c 0 rfl
              have eff := XF.out.f
              clear ca0 ca1 ca2 la cb0 cb1 cb2 lb cz0 cz1 cz2 lz fz co0 co1 co2 lo fo cf0 lf ff
              cases gk with
              | zero =>
                obtain rfl : ca = k := by omega
                go_wp2_with (fail)
                go_meet
                exact ⟨s, z', HT, HKs, XS, HBk⟩
              | succ m3 =>
                have hltk : k < ca := by omega
                have k1 : (k : Int) < (ca : Int) := by omega
                cases z'
                · obtain ⟨sa, sa1, sa2, sa3, sa4⟩ := row_at HNN.out hlti
                  obtain ⟨sb, sb1, sb2, sb3, sb4⟩ := row_at HMM.out hltk
                  obtain ⟨u, hu⟩ : ∃ u, u = sa + k := ⟨_, rfl⟩
                  obtain ⟨t, ht⟩ : ∃ t, t = sb + j := ⟨_, rfl⟩
                  have hun : u < n := by omega
                  have htm : t < m := by omega
                  have hx := get_of (xs := xs) (q := u) (by rw [HN.out]; exact hun)
                  have hy := get_of (xs := ys) (q := t) (by rw [HM.out]; exact htm)
                  obtain ⟨x, hxe⟩ : ∃ x, x = xs.getD u z5 := ⟨_, rfl⟩
                  obtain ⟨y, hye⟩ : ∃ y, y = ys.getD t z5 := ⟨_, rfl⟩
                  rw [← hxe] at hx
                  rw [← hye] at hy
                  have HX : Hid (xs.getD (i * ca + k) z5 = x) := by show _ = x; rw [hxe, hu, sa4]
                  have HY : Hid (ys.getD (k * cb + j) z5 = y) := by show _ = y; rw [hye, ht, sb4]
                  have HKx := hid (all_get (okM_iff.1 HO.out).2.2.2 hx)
                  have HKy := hid (all_get (okM_iff.1 HP.out).2.2.2 hy)
                  have hCx := HA.out.cx hx
                  obtain ⟨h9, o9, e9, hCy⟩ := HB.out t y hy
                  simp only [Option.some.injEq, Addr.mk.injEq, and_true] at e9
                  obtain ⟨rfl, rfl⟩ := e9
                  have far0 : ∀ k, k < w.heap.size → k ≠ gc → wr.heap[k]? = w.heap[k]? := fun k hk hne => ((HBk.out.block k (by omega)).trans (Below.heap_setCell _ _ _ _ (by show k ≠ gc; exact hne))).trans ((HBo.out.block k (by omega)).trans (Below.heap_setCell _ _ _ _ (by show k ≠ gc; exact hne)))
                  obtain ⟨p0, p1, p2, p3, p4⟩ := hCx.at_ (far0 g0 hCx.lt hg)
                  obtain ⟨q0, q1, q2, q3, q4⟩ := hCy.at_ (far0 h0 hCy.lt hh)
                  have e2 : IntKind.i64.wrap (sa : Int) = (sa : Int) := IntWalk.i64_in _ (by omega)
                  have e3 : IntKind.i64.wrap ((sa : Int) + (k : Int)) = (u : Int) := by rw [hu, Int.natCast_add]; exact IntWalk.i64_in _ (by omega)
                  have e4 : (u : Int) < (n : Int) := by omega
                  have e5 : IntKind.i64.wrap (sb : Int) = (sb : Int) := IntWalk.i64_in _ (by omega)
                  have e6 : IntKind.i64.wrap ((sb : Int) + (j : Int)) = (t : Int) := by rw [ht, Int.natCast_add]; exact IntWalk.i64_in _ (by omega)
                  have e7 : (t : Int) < (m : Int) := by omega
                  have s0 := XS.out.c 0 rfl
                  have s1 := XS.out.c 1 rfl
                  have s2 := XS.out.c 2 rfl
                  have s3 := XS.out.c 3 rfl
                  have s4 := XS.out.c 4 rfl
                  clear far0 hCx hCy hx hy hxe hye hu ht sa2 sa4 sb2 sb4
                  go_wp2_with (fail)
                  have ys0 : wr.drew.cell? ⟨wo.heap.size, 0, none⟩ = some (.int .i64 s.a) := s0
                  have ys1 : wr.drew.cell? ⟨wo.heap.size, 1, none⟩ = some (.int .i64 s.b) := s1
                  have ys2 : wr.drew.cell? ⟨wo.heap.size, 2, none⟩ = some (.int .i64 s.c) := s2
                  have ys3 : wr.drew.cell? ⟨wo.heap.size, 3, none⟩ = some (.int .i64 s.d) := s3
                  have ys4 : wr.drew.cell? ⟨wo.heap.size, 4, none⟩ = some (.int .i64 s.e) := s4
                  have yea1 : wr.drew.cell? ⟨w.heap.size, 1, none⟩ = some (.int .i64 (ca : Int)) := ea1
                  have yea2 : wr.drew.cell? ⟨w.heap.size, 2, none⟩ = some (.slice (some ⟨g0, 0, none⟩) n cp) := ea2
                  have yeb1 : wr.drew.cell? ⟨w.heap.size + 1, 1, none⟩ = some (.int .i64 (cb : Int)) := eb1
                  have yeb2 : wr.drew.cell? ⟨w.heap.size + 1, 2, none⟩ = some (.slice (some ⟨h0, o0, none⟩) m cp') := eb2
                  have yp0 : wr.drew.cell? ⟨g0, u * 5, none⟩ = some (.int .i64 x.a) := p0
                  have yp1 : wr.drew.cell? ⟨g0, u * 5 + 1, none⟩ = some (.int .i64 x.b) := p1
                  have yp2 : wr.drew.cell? ⟨g0, u * 5 + 2, none⟩ = some (.int .i64 x.c) := p2
                  have yp3 : wr.drew.cell? ⟨g0, u * 5 + 3, none⟩ = some (.int .i64 x.d) := p3
                  have yp4 : wr.drew.cell? ⟨g0, u * 5 + 4, none⟩ = some (.int .i64 x.e) := p4
                  have yq0 : wr.drew.cell? ⟨h0, o0 + t * 5, none⟩ = some (.int .i64 y.a) := q0
                  have yq1 : wr.drew.cell? ⟨h0, o0 + t * 5 + 1, none⟩ = some (.int .i64 y.b) := q1
                  have yq2 : wr.drew.cell? ⟨h0, o0 + t * 5 + 2, none⟩ = some (.int .i64 y.c) := q2
                  have yq3 : wr.drew.cell? ⟨h0, o0 + t * 5 + 3, none⟩ = some (.int .i64 y.d) := q3
                  have yq4 : wr.drew.cell? ⟨h0, o0 + t * 5 + 4, none⟩ = some (.int .i64 y.e) := q4
                  refine wp_region_x (fun w' => w'.cell? ⟨wo.heap.size, 0, none⟩ = some (.int .i64 s.a) ∧ w'.cell? ⟨wo.heap.size, 1, none⟩ = some (.int .i64 s.b) ∧ w'.cell? ⟨wo.heap.size, 2, none⟩ = some (.int .i64 s.c) ∧ w'.cell? ⟨wo.heap.size, 3, none⟩ = some (.int .i64 s.d) ∧ w'.cell? ⟨wo.heap.size, 4, none⟩ = some (.int .i64 s.e) ∧ w'.cell? ⟨w.heap.size, 1, none⟩ = some (.int .i64 (ca : Int)) ∧ w'.cell? ⟨w.heap.size, 2, none⟩ = some (.slice (some ⟨g0, 0, none⟩) n cp) ∧ w'.cell? ⟨w.heap.size + 1, 1, none⟩ = some (.int .i64 (cb : Int)) ∧ w'.cell? ⟨w.heap.size + 1, 2, none⟩ = some (.slice (some ⟨h0, o0, none⟩) m cp') ∧ w'.cell? ⟨g0, u * 5, none⟩ = some (.int .i64 x.a) ∧ w'.cell? ⟨g0, u * 5 + 1, none⟩ = some (.int .i64 x.b) ∧ w'.cell? ⟨g0, u * 5 + 2, none⟩ = some (.int .i64 x.c) ∧ w'.cell? ⟨g0, u * 5 + 3, none⟩ = some (.int .i64 x.d) ∧ w'.cell? ⟨g0, u * 5 + 4, none⟩ = some (.int .i64 x.e) ∧ w'.cell? ⟨h0, o0 + t * 5, none⟩ = some (.int .i64 y.a) ∧ w'.cell? ⟨h0, o0 + t * 5 + 1, none⟩ = some (.int .i64 y.b) ∧ w'.cell? ⟨h0, o0 + t * 5 + 2, none⟩ = some (.int .i64 y.c) ∧ w'.cell? ⟨h0, o0 + t * 5 + 3, none⟩ = some (.int .i64 y.d) ∧ w'.cell? ⟨h0, o0 + t * 5 + 4, none⟩ = some (.int .i64 y.e)) 25 (by kernel_rfl) ⟨ys0, ys1, ys2, ys3, ys4, yea1, yea2, yeb1, yeb2, yp0, yp1, yp2, yp3, yp4, yq0, yq1, yq2, yq3, yq4⟩ (fun hS0 => ?_)
                  refine wpAnyX_take (i := 0) (oi := _) (v := ?_) rfl (by kernel_rfl) (by kernel_rfl) (by kernel_rfl) (by kernel_rfl) (fun _ _ _ h => h) (Or.inl ⟨by rfl, ?_⟩) hS0 ?_
                  rotate_left 1
                  · (intro w hSw; (try dsimp only at hSw); go_simp; (try with_reducible rfl))
                  try simp only [Act.put, List.setIfInBounds_toArray, List.set_cons_zero, List.set_cons_succ]
                  refine wpAnyX_take (i := 1) (oi := _) (v := ?_) rfl (by kernel_rfl) (by kernel_rfl) (by kernel_rfl) (by kernel_rfl) (fun _ _ _ h => h) (Or.inl ⟨by rfl, ?_⟩) hS0 ?_
                  rotate_left 1
                  · (intro w hSw; (try dsimp only at hSw); go_simp; (try with_reducible rfl))
                  try simp only [Act.put, List.setIfInBounds_toArray, List.set_cons_zero, List.set_cons_succ]
                  refine wpAnyX_take (i := 2) (oi := _) (v := ?_) rfl (by kernel_rfl) (by kernel_rfl) (by kernel_rfl) (by kernel_rfl) (fun _ _ _ h => h) (Or.inl ⟨by rfl, ?_⟩) hS0 ?_
                  rotate_left 1
                  · (intro w hSw; (try dsimp only at hSw); go_simp; (try with_reducible rfl))
                  try simp only [Act.put, List.setIfInBounds_toArray, List.set_cons_zero, List.set_cons_succ]
                  refine wpAnyX_take (i := 3) (oi := _) (v := ?_) rfl (by kernel_rfl) (by kernel_rfl) (by kernel_rfl) (by kernel_rfl) (fun _ _ _ h => h) (Or.inl ⟨by rfl, ?_⟩) hS0 ?_
                  rotate_left 1
                  · (intro w hSw; (try dsimp only at hSw); go_simp; (try with_reducible rfl))
                  try simp only [Act.put, List.setIfInBounds_toArray, List.set_cons_zero, List.set_cons_succ]
                  refine wpAnyX_take (i := 4) (oi := _) (v := ?_) rfl (by kernel_rfl) (by kernel_rfl) (by kernel_rfl) (by kernel_rfl) (fun _ _ _ h => h) (Or.inl ⟨by rfl, ?_⟩) hS0 ?_
                  rotate_left 1
                  · (intro w hSw; (try dsimp only at hSw); go_simp; (try with_reducible rfl))
                  try simp only [Act.put, List.setIfInBounds_toArray, List.set_cons_zero, List.set_cons_succ]
                  refine wpAnyX_take (i := 5) (oi := _) (v := ?_) rfl (by kernel_rfl) (by kernel_rfl) (by kernel_rfl) (by kernel_rfl) (fun _ _ _ h => h) (Or.inl ⟨by rfl, ?_⟩) hS0 ?_
                  rotate_left 1
                  · (intro w hSw; (try dsimp only at hSw); go_simp; (try with_reducible rfl))
                  try simp only [Act.put, List.setIfInBounds_toArray, List.set_cons_zero, List.set_cons_succ]
                  refine wpAnyX_take (i := 6) (oi := _) (v := ?_) rfl (by kernel_rfl) (by kernel_rfl) (by kernel_rfl) (by kernel_rfl) (fun _ _ _ h => h) (Or.inl ⟨by rfl, ?_⟩) hS0 ?_
                  rotate_left 1
                  · (intro w hSw; (try dsimp only at hSw); go_simp; (try with_reducible rfl))
                  try simp only [Act.put, List.setIfInBounds_toArray, List.set_cons_zero, List.set_cons_succ]
                  refine wpAnyX_take (i := 7) (oi := _) (v := ?_) rfl (by kernel_rfl) (by kernel_rfl) (by kernel_rfl) (by kernel_rfl) (fun _ _ _ h => h) (Or.inl ⟨by rfl, ?_⟩) hS0 ?_
                  rotate_left 1
                  · (intro w hSw; (try dsimp only at hSw); go_simp; (try with_reducible rfl))
                  try simp only [Act.put, List.setIfInBounds_toArray, List.set_cons_zero, List.set_cons_succ]
                  refine wpAnyX_take (i := 8) (oi := _) (v := ?_) rfl (by kernel_rfl) (by kernel_rfl) (by kernel_rfl) (by kernel_rfl) (fun _ _ _ h => h) (Or.inl ⟨by rfl, ?_⟩) hS0 ?_
                  rotate_left 1
                  · (intro w hSw; (try dsimp only at hSw); go_simp; (try with_reducible rfl))
                  try simp only [Act.put, List.setIfInBounds_toArray, List.set_cons_zero, List.set_cons_succ]
                  refine wpAnyX_take (i := 9) (oi := _) (v := ?_) rfl (by kernel_rfl) (by kernel_rfl) (by kernel_rfl) (by kernel_rfl) (fun _ _ _ h => h) (Or.inl ⟨by rfl, ?_⟩) hS0 ?_
                  rotate_left 1
                  · (intro w hSw; (try dsimp only at hSw); go_simp; (try with_reducible rfl))
                  try simp only [Act.put, List.setIfInBounds_toArray, List.set_cons_zero, List.set_cons_succ]
                  refine wpAnyX_take (i := 10) (oi := _) (v := ?_) rfl (by kernel_rfl) (by kernel_rfl) (by kernel_rfl) (by kernel_rfl) (fun _ _ _ h => h) (Or.inl ⟨by rfl, ?_⟩) hS0 ?_
                  rotate_left 1
                  · (intro w hSw; (try dsimp only at hSw); go_simp; (try with_reducible rfl))
                  try simp only [Act.put, List.setIfInBounds_toArray, List.set_cons_zero, List.set_cons_succ]
                  refine wpAnyX_take (i := 11) (oi := _) (v := ?_) rfl (by kernel_rfl) (by kernel_rfl) (by kernel_rfl) (by kernel_rfl) (fun _ _ _ h => h) (Or.inl ⟨by rfl, ?_⟩) hS0 ?_
                  rotate_left 1
                  · (intro w hSw; (try dsimp only at hSw); go_simp; (try with_reducible rfl))
                  try simp only [Act.put, List.setIfInBounds_toArray, List.set_cons_zero, List.set_cons_succ]
                  refine wpAnyX_take (i := 12) (oi := _) (v := ?_) rfl (by kernel_rfl) (by kernel_rfl) (by kernel_rfl) (by kernel_rfl) (fun _ _ _ h => h) (Or.inl ⟨by rfl, ?_⟩) hS0 ?_
                  rotate_left 1
                  · (intro w hSw; (try dsimp only at hSw); go_simp; (try with_reducible rfl))
                  try simp only [Act.put, List.setIfInBounds_toArray, List.set_cons_zero, List.set_cons_succ]
                  refine wpAnyX_take (i := 13) (oi := _) (v := ?_) rfl (by kernel_rfl) (by kernel_rfl) (by kernel_rfl) (by kernel_rfl) (fun _ _ _ h => h) (Or.inl ⟨by rfl, ?_⟩) hS0 ?_
                  rotate_left 1
                  · (intro w hSw; (try dsimp only at hSw); go_simp; (try with_reducible rfl))
                  try simp only [Act.put, List.setIfInBounds_toArray, List.set_cons_zero, List.set_cons_succ]
                  refine wpAnyX_take (i := 14) (oi := _) (v := ?_) rfl (by kernel_rfl) (by kernel_rfl) (by kernel_rfl) (by kernel_rfl) (fun _ _ _ h => h) (Or.inl ⟨by rfl, ?_⟩) hS0 ?_
                  rotate_left 1
                  · (intro w hSw; (try dsimp only at hSw); go_simp; (try with_reducible rfl))
                  try simp only [Act.put, List.setIfInBounds_toArray, List.set_cons_zero, List.set_cons_succ]
                  refine wpAnyX_take (i := 15) (oi := _) (v := ?_) rfl (by kernel_rfl) (by kernel_rfl) (by kernel_rfl) (by kernel_rfl) (fun _ _ _ h => h) (Or.inl ⟨by rfl, ?_⟩) hS0 ?_
                  rotate_left 1
                  · (intro w hSw; (try dsimp only at hSw); go_simp; (try with_reducible rfl))
                  try simp only [Act.put, List.setIfInBounds_toArray, List.set_cons_zero, List.set_cons_succ]
                  refine wpAnyX_take (i := 16) (oi := _) (v := ?_) rfl (by kernel_rfl) (by kernel_rfl) (by kernel_rfl) (by kernel_rfl) (fun _ _ _ h => h) (Or.inl ⟨by rfl, ?_⟩) hS0 ?_
                  rotate_left 1
                  · (intro w hSw; (try dsimp only at hSw); go_simp; (try with_reducible rfl))
                  try simp only [Act.put, List.setIfInBounds_toArray, List.set_cons_zero, List.set_cons_succ]
                  refine wpAnyX_take (i := 17) (oi := _) (v := ?_) rfl (by kernel_rfl) (by kernel_rfl) (by kernel_rfl) (by kernel_rfl) (fun _ _ _ h => h) (Or.inl ⟨by rfl, ?_⟩) hS0 ?_
                  rotate_left 1
                  · (intro w hSw; (try dsimp only at hSw); go_simp; (try with_reducible rfl))
                  try simp only [Act.put, List.setIfInBounds_toArray, List.set_cons_zero, List.set_cons_succ]
                  refine wpAnyX_take (i := 18) (oi := _) (v := ?_) rfl (by kernel_rfl) (by kernel_rfl) (by kernel_rfl) (by kernel_rfl) (fun _ _ _ h => h) (Or.inl ⟨by rfl, ?_⟩) hS0 ?_
                  rotate_left 1
                  · (intro w hSw; (try dsimp only at hSw); go_simp; (try with_reducible rfl))
                  try simp only [Act.put, List.setIfInBounds_toArray, List.set_cons_zero, List.set_cons_succ]
                  refine wpAnyX_take (i := 19) (oi := _) (v := ?_) rfl (by kernel_rfl) (by kernel_rfl) (by kernel_rfl) (by kernel_rfl) (fun _ _ _ h => h) (Or.inl ⟨by rfl, ?_⟩) hS0 ?_
                  rotate_left 1
                  · (intro w hSw; (try dsimp only at hSw); go_simp; (try with_reducible rfl))
                  try simp only [Act.put, List.setIfInBounds_toArray, List.set_cons_zero, List.set_cons_succ]
                  refine wpAnyX_take (i := 20) (oi := _) (v := ?_) rfl (by kernel_rfl) (by kernel_rfl) (by kernel_rfl) (by kernel_rfl) (fun _ _ _ h => h) (Or.inl ⟨by rfl, ?_⟩) hS0 ?_
                  rotate_left 1
                  · (intro w hSw; (try dsimp only at hSw); go_simp; (try with_reducible rfl))
                  try simp only [Act.put, List.setIfInBounds_toArray, List.set_cons_zero, List.set_cons_succ]
                  refine wpAnyX_take (i := 21) (oi := _) (v := ?_) rfl (by kernel_rfl) (by kernel_rfl) (by kernel_rfl) (by kernel_rfl) (fun _ _ _ h => h) (Or.inl ⟨by rfl, ?_⟩) hS0 ?_
                  rotate_left 1
                  · (intro w hSw; (try dsimp only at hSw); go_simp; (try with_reducible rfl))
                  try simp only [Act.put, List.setIfInBounds_toArray, List.set_cons_zero, List.set_cons_succ]
                  refine wpAnyX_take (i := 22) (oi := _) (v := ?_) rfl (by kernel_rfl) (by kernel_rfl) (by kernel_rfl) (by kernel_rfl) (fun _ _ _ h => h) (Or.inl ⟨by rfl, ?_⟩) hS0 ?_
                  rotate_left 1
                  · (intro w hSw; (try dsimp only at hSw); go_simp; (try with_reducible rfl))
                  try simp only [Act.put, List.setIfInBounds_toArray, List.set_cons_zero, List.set_cons_succ]
                  refine wpAnyX_one (i := 23) (o := _) rfl (by kernel_rfl) (fun K hK => ?_)
                  go_simp
                  refine (cmul (x := x) (y := y) (z := false) HKx.out HKy.out (by exact ef0) (by exact eff 0)).mono ?_
                  rintro ee wa ⟨rfl, hba⟩
                  have hbb := bad_drew hba
                  have hza := bad_size hbb
                  have Yf := Bx.bad XF.out hbb
                  have yf0 := Yf.c 0 rfl
                  have yff := Yf.f
                  refine hK.out _ _ (fun _ => ?_) (fun hS1 => ?_)
                  · exact ⟨kbad hba (by omega) (hS0.1), kbad hba (by omega) (hS0.2.1), kbad hba (by omega) (hS0.2.2.1), kbad hba (by omega) (hS0.2.2.2.1), kbad hba (by omega) (hS0.2.2.2.2.1), kbad hba (by omega) (hS0.2.2.2.2.2.1), kbad hba (by omega) (hS0.2.2.2.2.2.2.1), kbad hba (by omega) (hS0.2.2.2.2.2.2.2.1), kbad hba (by omega) (hS0.2.2.2.2.2.2.2.2.1), kbad hba (by omega) (hS0.2.2.2.2.2.2.2.2.2.1), kbad hba (by omega) (hS0.2.2.2.2.2.2.2.2.2.2.1), kbad hba (by omega) (hS0.2.2.2.2.2.2.2.2.2.2.2.1), kbad hba (by omega) (hS0.2.2.2.2.2.2.2.2.2.2.2.2.1), kbad hba (by omega) (hS0.2.2.2.2.2.2.2.2.2.2.2.2.2.1), kbad hba (by omega) (hS0.2.2.2.2.2.2.2.2.2.2.2.2.2.2.1), kbad hba (by omega) (hS0.2.2.2.2.2.2.2.2.2.2.2.2.2.2.2.1), kbad hba (by omega) (hS0.2.2.2.2.2.2.2.2.2.2.2.2.2.2.2.2.1), kbad hba (by omega) (hS0.2.2.2.2.2.2.2.2.2.2.2.2.2.2.2.2.2.1), kbad hba (by omega) (hS0.2.2.2.2.2.2.2.2.2.2.2.2.2.2.2.2.2.2)⟩
                  clear hK K
                  have hS1 := hS1 (by decide)
                  try simp only [Act.put, List.setIfInBounds_toArray, List.set_cons_zero, List.set_cons_succ]
                  refine wpAnyX_one (i := 24) (o := _) rfl (by kernel_rfl) (fun K hK => ?_)
                  go_simp
                  refine (cadd (x := s) (y := (mulS false x y).1) (z := (mulS false x y).2) HKs.out (mulS_ok HKx.out HKy.out) (by exact yf0) (by exact yff 0)).mono ?_
                  rintro ee wb ⟨rfl, hbc⟩
                  have hzb := bad_size hbc
                  refine hK.out _ _ (fun _ => ?_) (fun hS2 => ?_)
                  · exact ⟨kbad hbc (by omega) (hS1.1), kbad hbc (by omega) (hS1.2.1), kbad hbc (by omega) (hS1.2.2.1), kbad hbc (by omega) (hS1.2.2.2.1), kbad hbc (by omega) (hS1.2.2.2.2.1), kbad hbc (by omega) (hS1.2.2.2.2.2.1), kbad hbc (by omega) (hS1.2.2.2.2.2.2.1), kbad hbc (by omega) (hS1.2.2.2.2.2.2.2.1), kbad hbc (by omega) (hS1.2.2.2.2.2.2.2.2.1), kbad hbc (by omega) (hS1.2.2.2.2.2.2.2.2.2.1), kbad hbc (by omega) (hS1.2.2.2.2.2.2.2.2.2.2.1), kbad hbc (by omega) (hS1.2.2.2.2.2.2.2.2.2.2.2.1), kbad hbc (by omega) (hS1.2.2.2.2.2.2.2.2.2.2.2.2.1), kbad hbc (by omega) (hS1.2.2.2.2.2.2.2.2.2.2.2.2.2.1), kbad hbc (by omega) (hS1.2.2.2.2.2.2.2.2.2.2.2.2.2.2.1), kbad hbc (by omega) (hS1.2.2.2.2.2.2.2.2.2.2.2.2.2.2.2.1), kbad hbc (by omega) (hS1.2.2.2.2.2.2.2.2.2.2.2.2.2.2.2.2.1), kbad hbc (by omega) (hS1.2.2.2.2.2.2.2.2.2.2.2.2.2.2.2.2.2.1), kbad hbc (by omega) (hS1.2.2.2.2.2.2.2.2.2.2.2.2.2.2.2.2.2.2)⟩
                  clear hK K
                  have hS2 := hS2 (by decide)
                  try simp only [Act.put, List.setIfInBounds_toArray, List.set_cons_zero, List.set_cons_succ]
                  refine wpAnyX_one (i := 25) (o := _) rfl (by kernel_rfl) (fun K hK => ?_)
                  have Ys := (XS.out.badly hbb (by omega)).badly hbc (by omega)
                  have ys0 := Ys.c 0 rfl
                  have ys1 := Ys.c 1 rfl
                  have ys2 := Ys.c 2 rfl
                  have ys3 := Ys.c 3 rfl
                  have ys4 := Ys.c 4 rfl
                  have ysf := Ys.f
                  go_simp
                  refine hK.out _ _ (fun h => absurd rfl h) (fun _ => ?_)
                  clear hK K
                  try simp only [Act.put, List.setIfInBounds_toArray, List.set_cons_zero, List.set_cons_succ]
                  refine wpAnyX_done (by kernel_rfl) ?_ _
                  go_wp2_with (fail)
                  go_roundg m3
                  case measure => omega
                  case rel =>
                    refine ⟨k + 1, (addS (mulS false x y).2 s (mulS false x y).1).1, (addS (mulS false x y).2 s (mulS false x y).1).2, by omega, by go_num, ?_, ?_, ?_, ?_⟩
                    · show _ = _; exact mmT_next HT.out HX.out HY.out
                    · show _ = _; exact addS_ok HKs.out (mulS_ok HKx.out HKy.out)
                    · show Bx _ _ _ _; exact Ys.set5 _
                    · show Below _ _ _; exact set5_below (x := (addS (mulS false x y).2 s (mulS false x y).1).1) (bad_step (bad_step HBk.out hgw hbb (by omega)) hgw hbc (by omega)) (Nat.le_refl _)
                · go_wp2_with (fail)
                  go_meet
                  exact ⟨s, true, hid (mmT_end HT.out (by omega)), HKs, XS, HBk⟩
          case rest =>
            obtain ⟨wx, rfl⟩ : ∃ wx, wx = wc := ⟨_, rfl⟩
            obtain ⟨s, z', HT, HKs, XS, HBx⟩ := hcut
            have hBx := HBx.out.size
            rw [World.size_setCell] at hBx
            have iqj : i * cb + j < N := by rw [EN.out]; exact idx_lt hlti hltj
            have hl := HS.out.1
            have HL := hid hl
            have hvl := World.ownsRow.lt HOw.out
            have HVL := hid hvl
            clear hl
            have nea : some (w.heap.size) ≠ v.ownBlock := fun e => by have := (hvl _ e.symm); omega
            have neb : some (w.heap.size + 1) ≠ v.ownBlock := fun e => by have := (hvl _ e.symm); omega
            have nez : some (w.heap.size + 1 + 1) ≠ v.ownBlock := fun e => by have := (hvl _ e.symm); omega
            have neo : some (w.heap.size + 1 + 1 + 1) ≠ v.ownBlock := fun e => by have := (hvl _ e.symm); omega
            have nef : some (gc) ≠ v.ownBlock := fun e => by have := (hvl _ e.symm); omega
            have Ya := hid (Xa.out.badly HBx.out (by omega))
            have Yb := hid (Xb.out.badly HBx.out (by omega))
            have Yz := hid (Xz.out.badly HBx.out (by omega))
            have Yo := hid (Xo.out.badly HBx.out (by omega))
            have Yf := hid (Xf.out.bad HBx.out)
            have HOw2 := hid (HOw.out.badly HBx.out (by omega))
            have HBW := hid (bad_step HBo.out hgc HBx.out (by omega))
            clear hvl HOw HBo HBx Xa la ca0 ca1 ca2 Xb lb cb0 cb1 cb2 Xz lz cz0 cz1 cz2 fz Xo lo co0 co1 co2 fo Xf lf cf0 ff
            have Xa := Ya
            have Xb := Yb
            have Xz := Yz
            have Xo := Yo
            have Xf := Yf
            clear Ya Yb Yz Yo Yf
            have ca0 := Xa.out.c 0 rfl
            have ca1 := Xa.out.c 1 rfl
            have ca2 := Xa.out.c 2 rfl
            have la := Xa.out.lt
            have cb0 := Xb.out.c 0 rfl
            have cb1 := Xb.out.c 1 rfl
            have cb2 := Xb.out.c 2 rfl
            have lb := Xb.out.lt
            have cz0 := Xz.out.c 0 rfl
            have cz1 := Xz.out.c 1 rfl
            have cz2 := Xz.out.c 2 rfl
            have lz := Xz.out.lt
            have fz := Xz.out.f
            have co0 := Xo.out.c 0 rfl
            have co1 := Xo.out.c 1 rfl
            have co2 := Xo.out.c 2 rfl
            have lo := Xo.out.lt
            have fo := Xo.out.f
            have cf0 := Xf.out.c 0 rfl
            have lf := Xf.out.lt
            have ff := Xf.out.f
            have s0 := XS.out.c 0 rfl
            have s1 := XS.out.c 1 rfl
            have s2 := XS.out.c 2 rfl
            have s3 := XS.out.c 3 rfl
            have s4 := XS.out.c 4 rfl
            go_wp2_with (at_builtin; refine wpList_append_lies _ rfl _ _ _ rfl (w.heap.size + 1 + 1 + 1 + 1) 37 i0 _ 5 40 Try.underlying24 hi0 hu0 hu1 hu2 rfl (by omega) v (i * cb + j) (csL zs) rfl (World.ownsRow.alloc (by have := HOw2.out; unfold Own5 at this; rw [HL.out] at this; exact this) _) ⟨wx.heap.size, 0, none⟩ 1 1 s.cs rfl rfl (World.news_of_block (cs := s.cs.toArray) (t := 37) (fr := (0, 0)) (heap_alloc_new _ _)) (by simp [D5.cs, Value.oneCell']) (by omega) (append_ok (by omega)).1 (append_ok (by omega)).2 (by simp; omega) (wx.heap.size + 1) (by simp) ?_; intro gg cap wb hownb hgrowb hatb hltb; have Yo := (Bx.alloc Xo.out _).grown hgrowb neo; have yo2 := Yo.c 2 rfl; have yof := Yo.f 2)
            go_roundg m2
            case measure => omega
            case rel =>
              have hzb := hgrowb.size
              simp only [World.size_alloc] at hzb
              have Ya := (Bx.alloc Xa.out _).grown hgrowb nea
              have Yb := (Bx.alloc Xb.out _).grown hgrowb neb
              have Yz := (Bx.alloc Xz.out _).grown hgrowb nez
              have Yf := (Bx.alloc Xf.out _).grown hgrowb nef
              refine ⟨j + 1, .slice (some ⟨gg, 0, none⟩) (i * cb + j + 1) cap, z', zs ++ [s], by omega, by go_num, Ya.far (by omega), Yb.far (by omega), Yz.far (by omega), Yo.set rfl, Yf.far (by omega), ?_, ?_, by (try simp only [World.size_setCell]); omega, ?_⟩
              · show Own5 _ _ _ _ _
                exact (Own5.snoc HL.out hownb).far (by show w.heap.size + 1 + 1 + 1 < _; omega) _
              · refine HS.out.next (r := (s, z')) (fun h => ?_) (fun h => ?_)
                · have h1 := HT.out
                  rw [h] at h1
                  rw [HF.out, HG.out, (mm_at hltj).1, (mm_at hltj).2, h1]
                · have h1 := HT.out
                  rw [h] at h1
                  have h2 := mmT_t (ca := ca) (cb := cb) (xs := xs) (ys := ys) (i := i) (j := j) (K := ca)
                  rw [h1] at h2
                  exact h2
              · show Below _ _ _
                refine Below.setCell ?_ (by show w.heap.size ≤ w.heap.size + 1 + 1 + 1; omega) _
                refine Below.grown (HBW.out.alloc (by omega) _) hgrowb (by simp only [World.size_alloc]; omega) (fun q e => by have := (HVL.out _ e).1; omega)

end Go.Proofs.Ytncgccpkbneagaa
