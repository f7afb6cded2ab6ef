/- SRow, AddS3, AddI3, KrD, KrI, KrS, MuS, Bla, KrJ, MuM -/
import Derived.Test.YtofclfgaekjonaaZq12
import Derived.Test.YtofclfgaekjonaaZq11
import Derived.Deep.CutBlock
import Derived.Test.YtofclfgaekjonaaZq9
import Derived.Test.YtofclfgaekjonaaZq4
namespace Go.Proofs.Ytofclfgaekjonaa
open Go.RowKit RM
set_option linter.unusedVariables false
set_option linter.unusedSimpArgs false
attribute [local irreducible] World.setCell

/-- a row of products: what has been scaled so far -/
def mulP (f : Nat → D5) (x : D5) (k j q : Nat) : D5 := if k ≤ q ∧ q < k + j then (mulS false x (f q)).1 else f q
def mulH (f : Nat → D5) (x : D5) (k i : Nat) : Bool := (mulS false x (f (k + i))).2
theorem mulP_0 (f : Nat → D5) (x : D5) (k N : Nat) : tab N (mulP f x k 0) = tab N f := tab_congr (fun q _ => by unfold mulP; rw [if_neg (by omega)])
theorem mulP_at (f : Nat → D5) (x : D5) (k j : Nat) : mulP f x k j (k + j) = f (k + j) := by unfold mulP; rw [if_neg (by omega)]
theorem mulP_set {f : Nat → D5} {x : D5} {k j N : Nat} (h : k + j < N) : (tab N (mulP f x k j)).set (k + j) (mulS false x (f (k + j))).1 = tab N (mulP f x k (j + 1)) := by
  rw [tab_set h]
  refine tab_congr (fun q _ => ?_)
  unfold mulP
  by_cases e : q = k + j
  · subst e
    rw [if_pos rfl, if_pos (by omega)]
  · rw [if_neg e]
    by_cases e2 : k ≤ q ∧ q < k + j
    · rw [if_pos e2, if_pos (by omega)]
    · rw [if_neg e2, if_neg (by omega)]

theorem one5_off {x : D5} (h0 : x.a = 1) (h1 : x.b = 0) (h2 : x.c = 0) (h3 : x.d = 0) (h4 : x.e = 0) : x = one5 := by
  obtain ⟨a, b, c, d, e⟩ := x
  dsimp only at h0 h1 h2 h3 h4
  subst h0 h1 h2 h3 h4; rfl

set_option maxRecDepth 100000 in
set_option maxHeartbeats 8000000 in
theorem srow {g k m cs N : Nat} {f : Nat → D5} {x : D5} {w : World} (hG : Bk w g 99 (tab N f)) (hk : k + m ≤ N) (hN : N ≤ 1024) (hcs : m ≤ cs) (hcs2 : cs ≤ 1048576) (ho1 : ∀ i, i < m → (f (k + i)).ok = true) (ho2 : x.ok = true) :
    Calls Try.prog 131 #[.slice (some ⟨g, k * 5, none⟩) m cs, x.v] w fun ee w' => AR w w' ee g (tab N (mulP f x k m)) (anyB m (mulH f x k)) := by
  have HG := hid hG
  have HO1 := hid ho1
  have HO2 := hid ho2
  have lg := hG.lt
  clear hG ho1 ho2
  go_enter Try.func131, Try.ntmps131
  go_upto_region 1 with (fail)
  obtain ⟨W, hW⟩ : ∃ W : World, W = w.alloc (.cells #[.int .i64 x.a, .int .i64 x.b, .int .i64 x.c, .int .i64 x.d, .int .i64 x.e] 99) := ⟨_, rfl⟩
  have hbW : Below w.heap.size w W := by rw [hW]; exact (Below.refl _ _).alloc (Nat.le_refl _) _
  have XW : Bx W w.heap.size 99 #[.int .i64 x.a, .int .i64 x.b, .int .i64 x.c, .int .i64 x.d, .int .i64 x.e] := by rw [hW]; exact Bx.new rfl
  have hzW : w.heap.size < W.heap.size := by rw [hW]; simp
  rw [← hW]
  clear hW
  have HGW := hid (HG.out.mono hbW)
  have XWH := hid XW
  have HBW := hid hbW
  have d0 := XW.c 0 rfl
  have d1 := XW.c 1 rfl
  have d2 := XW.c 2 rfl
  have d3 := XW.c 3 rfl
  have d4 := XW.c 4 rfl
  clear XW hbW
  by_cases hx1 : x = one5
  · have z0 : W.cell? ⟨w.heap.size, 0, none⟩ = some (.int .i64 1) := by rw [d0, hx1]; rfl
    have z1 : W.cell? ⟨w.heap.size, 1, none⟩ = some (.int .i64 0) := by rw [d1, hx1]; rfl
    have z2 : W.cell? ⟨w.heap.size, 2, none⟩ = some (.int .i64 0) := by rw [d2, hx1]; rfl
    have z3 : W.cell? ⟨w.heap.size, 3, none⟩ = some (.int .i64 0) := by rw [d3, hx1]; rfl
    have z4 : W.cell? ⟨w.heap.size, 4, none⟩ = some (.int .i64 0) := by rw [d4, hx1]; rfl
    have HX1 := hid hx1
    clear d0 d1 d2 d3 d4 hx1
    go_wp2_with (fail)
    go_ret
    refine ⟨fun h => ?_, fun _ => ⟨rfl, ?_⟩, grown_below HBW.out⟩
    · rw [anyB_f (fun i hi => by unfold mulH; rw [HX1.out, mulS_one (HO1.out i hi)])] at h; cases h
    · have e : tab N (mulP f x k m) = tab N f := tab_congr (fun q hq => by
        unfold mulP
        by_cases e2 : k ≤ q ∧ q < k + m
        · rw [if_pos e2, HX1.out, mulS_one (by have := HO1.out (q - k) (by omega); rwa [show k + (q - k) = q by omega] at this)]
        · rw [if_neg e2])
      rw [e]; exact HGW.out
  have HX1 := hid hx1
  clear hx1
  go_cut [12] (fun s12 wx => s12 = .bool false ∧ wx = W)
  case first =>
    go_wp2_with (fail)
    all_goals go_meet
    all_goals first | exact ⟨rfl, rfl⟩ | exact absurd (one5_off (by assumption) (by assumption) (by assumption) (by assumption) (by assumption)) HX1.out
  obtain ⟨rfl, hq0⟩ := hcut
  have hq1 := hq0.symm
  subst hq1
  clear d0 d1 d2 d3 d4
  go_wp2_with (fail)
  go_loopg [15] m (fun q s1 wr => ∃ j : Nat, j + q = m ∧ s1 = .int .i64 (j : Int) ∧ Hid (Bx wr w.heap.size 99 #[.int .i64 x.a, .int .i64 x.b, .int .i64 x.c, .int .i64 x.d, .int .i64 x.e]) ∧ Hid (Bk wr g 99 (tab N (mulP f x k j))) ∧ Hid (∀ i, i < j → mulH f x k i = false) ∧ Hid (w.grownBy wr (some g)))
  case atStart => exact ⟨0, by omega, rfl, XWH, by show Bk _ _ _ _; rw [mulP_0]; exact HGW.out, fun i hi => absurd hi (Nat.not_lt_zero i), grown_below HBW.out⟩
  case round =>
    obtain ⟨j, hj, rfl, XX, HB, HH, HW⟩ := hrel
    have lx := XX.out.lt
    have hzw := HW.out.size
    cases gk with
    | zero =>
      obtain rfl : j = m := by omega
      go_wp2_with (fail)
      go_ret
      refine ⟨fun h => ?_, fun _ => ⟨rfl, HB.out⟩, HW.out⟩
      rw [anyB_f HH.out] at h; cases h
    | succ m2 =>
      have hlt : j < m := by omega
      have j1 : (j : Int) < (m : Int) := by omega
      have hG0 := HB.out.cx (k := k + j) (tab_get (by omega))
      rw [mulP_at] at hG0
      have HKy0 := HO1.out j hlt
      obtain ⟨y, hye⟩ : ∃ y, y = f (k + j) := ⟨_, rfl⟩
      rw [← hye] at hG0 HKy0
      have HYE := hid hye
      have HKy := hid HKy0
      obtain ⟨p0, p1, p2, p3, p4⟩ := hG0
      simp only [Nat.add_mul] at p0 p1 p2 p3 p4
      have c0 := XX.out.c 0 rfl
      have c1 := XX.out.c 1 rfl
      have c2 := XX.out.c 2 rfl
      have c3 := XX.out.c 3 rfl
      have c4 := XX.out.c 4 rfl
      clear hye HKy0
      cases hf : (mulS false x y).2
      · have HF := hid hf
        clear hf
        go_wp2_with (fail)
        refine (imul_t (x := x) (y := y) HO2.out HKy.out HF.out _).mono ?_
        rintro ee w8 ⟨rfl, hb8⟩
        have hW8 : Below wr.heap.size wr w8 := by (repeat' (first | (with_reducible exact Below.refl _ _) | (with_reducible assumption) | (with_reducible refine Below.alloc ?_ ?_ _) | (with_reducible refine Below.drew ?_) | (with_reducible refine below_drewN ?_ _) | (with_reducible refine Below.setCell ?_ ?_ _) | (with_reducible refine chain ?_ (by assumption) ?_) | omega | (simp; done) | (simp; omega)))
        have hz8 := hW8.size
        have hW9 : Hid (w.grownBy w8 (some g)) := grown_trans HW.out (grown_below hW8)
        have HB9 := hid (HB.out.mono hW8)
        have X9 := hid (XX.out.mono hW8)
        have lb9 := HB9.out.lt
        have fr9 := HB9.out.fr
        obtain ⟨r0, r1, r2, r3, r4⟩ := HB9.out.cx (k := k + j) (tab_get (by omega))
        simp only [Nat.add_mul] at r0 r1 r2 r3 r4
        go_wp2_with (fail)
        go_roundg m2
        case measure => omega
        case rel =>
          refine ⟨j + 1, by omega, by go_num, (X9.out.far5 (mulS false x y).1 (by omega)).alloc _, ?_, ?_, ?_⟩
          · show Bk _ _ _ _
            have h1 := HB9.out.set (k := k + j) (mulS false x y).1 (by rw [tab_len]; omega)
            rw [HYE.out, mulP_set (by omega), ← HYE.out, Nat.add_mul] at h1
            exact h1.alloc _
          · show ∀ i, i < j + 1 → _
            intro i hi
            by_cases e : i = j
            · subst e; unfold mulH; rw [← HYE.out, HF.out]
            · exact HH.out i (by omega)
          · exact grown_trans (grown_set5 (x := (mulS false x y).1) hW9.out) (grown_below ((Below.refl _ _).alloc (Nat.le_refl _) _))
      · have HF := hid hf
        clear hf
        go_wp2_with (fail)
        refine (imul_f (x := x) (y := y) HO2.out HKy.out HF.out _).mono ?_
        rintro ee w8 ⟨rfl, hb8⟩
        have hW8 : Below wr.heap.size wr w8 := by (repeat' (first | (with_reducible exact Below.refl _ _) | (with_reducible assumption) | (with_reducible refine Below.alloc ?_ ?_ _) | (with_reducible refine Below.drew ?_) | (with_reducible refine below_drewN ?_ _) | (with_reducible refine Below.setCell ?_ ?_ _) | (with_reducible refine chain ?_ (by assumption) ?_) | omega | (simp; done) | (simp; omega)))
        have hz8 := hW8.size
        have hW9 : Hid (w.grownBy w8 (some g)) := grown_trans HW.out (grown_below hW8)
        go_wp2_with (fail)
        go_ret
        refine ⟨fun _ => rfl, fun h => ?_, ?_⟩
        · have : mulH f x k j = true := by unfold mulH; rw [← HYE.out, HF.out]
          rw [anyB_of hlt this] at h; cases h
        · first | exact hW9.out | exact grown_trans hW9.out (grown_below ((Below.refl _ _).alloc (Nat.le_refl _) _))
end Go.Proofs.Ytofclfgaekjonaa
namespace Go.Proofs.Ytofclfgaekjonaa
open Go.RowKit RM
set_option linter.unusedVariables false
set_option linter.unusedSimpArgs false
attribute [local irreducible] World.setCell

end Go.Proofs.Ytofclfgaekjonaa
namespace Go.Proofs.Ytofclfgaekjonaa
open Go.RowKit RM
set_option linter.unusedVariables false
set_option linter.unusedSimpArgs false
attribute [local irreducible] World.setCell

/-- what a program's function of matrices answers -/
def IR (w w' : World) (ee : Ending) (r c : Int) (n : Nat) (zs : List D5) (bad : Bool) : Prop :=
  (bad = true → ee = .returned (mt 0 0 none 0 0 false)) ∧ (bad = false → ∃ g : Nat, ee = .returned (mt r c (some ⟨g, 0, none⟩) n n true) ∧ Bk w' g 99 zs ∧ w.heap.size ≤ g) ∧ Below w.heap.size w w'
theorem size5 : (Try.prog.info? 99).map (·.size) = some 5 := by kernel_rfl
theorem MR.law {w w' : World} {ee : Ending} {r c : Int} {n : Nat} {zs : List D5} (h : MR w w' ee r c n zs false) : ∃ A cp, ee = .returned (mt r c A n cp true) ∧ (Rd w' A zs ∧ (∀ a, A = some a → w.heap.size ≤ a.block)) ∧ Below w.heap.size w w' := by
  obtain ⟨B, cq, he, hr, ha⟩ := h.2.1 rfl
  exact ⟨B, cq, he, ⟨hr, ha⟩, h.2.2⟩
theorem MR.bad {w w' : World} {ee : Ending} {r c : Int} {n : Nat} {zs : List D5} (h : MR w w' ee r c n zs true) : ∃ A cp, ee = .returned (mt 0 0 A 0 cp false) ∧ (Rd w' A [] ∧ (∀ a, A = some a → w.heap.size ≤ a.block)) ∧ Below w.heap.size w w' :=
  ⟨none, 0, h.1 rfl, ⟨Rd.nil _ _, fun a ha => (by cases ha)⟩, h.2.2⟩
theorem IR.law {w w' : World} {ee : Ending} {r c : Int} {n : Nat} {zs : List D5} (h : IR w w' ee r c n zs false) : ∃ A cp, ee = .returned (mt r c A n cp true) ∧ (Ow w' w.heap.size 99 A zs) ∧ Below w.heap.size w w' := by
  obtain ⟨g, he, hk, hg⟩ := h.2.1 rfl
  exact ⟨some ⟨g, 0, none⟩, n, he, hk.ow hg, h.2.2⟩
theorem IR.bad {w w' : World} {ee : Ending} {r c : Int} {n : Nat} {zs : List D5} (h : IR w w' ee r c n zs true) : ∃ A cp, ee = .returned (mt 0 0 A 0 cp false) ∧ (Ow w' w.heap.size 99 A []) ∧ Below w.heap.size w w' :=
  ⟨none, 0, h.1 rfl, Or.inl ⟨rfl, rfl⟩, h.2.2⟩
end Go.Proofs.Ytofclfgaekjonaa
namespace Go.Proofs.Ytofclfgaekjonaa
open Go.RowKit RM
set_option linter.unusedVariables false
set_option linter.unusedSimpArgs false
attribute [local irreducible] World.setCell

theorem row_getD {ys : List D5} {s c r : Nat} (hr : r < c) : ((ys.drop s).take c).getD r z5 = ys.getD (s + r) z5 := by
  rw [List.getD_eq_getElem?_getD, List.getD_eq_getElem?_getD, List.getElem?_take_of_lt hr, List.getElem?_drop]
theorem divQ {Q i r : Nat} (h : r < Q) : (i * Q + r) / Q = i ∧ (i * Q + r) % Q = r := by
  have hQ : 0 < Q := by omega
  rw [Nat.add_comm, Nat.mul_comm]
  exact ⟨by rw [Nat.add_mul_div_left _ _ hQ, Nat.div_eq_of_lt h, Nat.zero_add], by rw [Nat.add_mul_mod_self_left, Nat.mod_eq_of_lt h]⟩
section
variable {P : Program} {ops : Array Oper} {o : Oper} {a : Act} {w : World} {K : Act → World → Prop} {Q : Exit → Act → World → Prop} {E : Prop}
end

end Go.Proofs.Ytofclfgaekjonaa
namespace Go.Proofs.Ytofclfgaekjonaa
open Go.RowKit RM
set_option linter.unusedVariables false
set_option linter.unusedSimpArgs false
attribute [local irreducible] World.setCell

end Go.Proofs.Ytofclfgaekjonaa
namespace Go.Proofs.Ytofclfgaekjonaa
open Go.RowKit RM
set_option linter.unusedVariables false
set_option linter.unusedSimpArgs false
attribute [local irreducible] World.setCell

theorem idx_lt {i j P Q : Nat} (hi : i < P) (hj : j < Q) : i * Q + j < P * Q := by
  have h1 : (i + 1) * Q ≤ P * Q := Nat.mul_le_mul_right Q hi
  rw [Nat.add_mul, Nat.one_mul] at h1; omega
/-- what the model's product holds -/
def KM (w w' : World) (ee : Ending) (gc P Q N : Nat) (F : Nat → D5) (G : Nat → Bool) : Prop := ∃ (z : Bool) (zs : List D5) (Bo : Option Addr) (cq : Nat), ee = .returned (mv (P : Int) (Q : Int) Bo N cq) ∧ Sofar z zs N F G ∧ Rd w' Bo zs ∧ (∀ a, Bo = some a → w.heap.size ≤ a.block) ∧ Below w.heap.size (w.setCell ⟨gc, 0, none⟩ (.bool z)) w'
theorem KM.i {w w' : World} {ee : Ending} {gc P Q N : Nat} {F : Nat → D5} {G : Nat → Bool} {z : Bool} {zs : List D5} {Bo : Option Addr} {cq : Nat} (h1 : ee = .returned (mv (P : Int) (Q : Int) Bo N cq)) (h2 : Sofar z zs N F G) (h3 : Rd w' Bo zs) (h4 : ∀ a, Bo = some a → w.heap.size ≤ a.block) (h5 : Below w.heap.size (w.setCell ⟨gc, 0, none⟩ (.bool z)) w') : KM w w' ee gc P Q N F G := ⟨z, zs, Bo, cq, h1, h2, h3, h4, h5⟩
end Go.Proofs.Ytofclfgaekjonaa
namespace Go.Proofs.Ytofclfgaekjonaa
open Go.RowKit RM
set_option linter.unusedVariables false
set_option linter.unusedSimpArgs false
attribute [local irreducible] World.setCell

/-- a cell of a product: the sum of the first k products, and whether one failed (z: one failed before) -/
def mmT (ca cb : Nat) (xs ys : List D5) (i j : Nat) (z : Bool) : Nat → D5 × Bool
  | 0 => (z5, z)
  | k + 1 => if (mmT ca cb xs ys i j z k).2 then mmT ca cb xs ys i j z k else addS (mulS false (xs.getD (i * ca + k) z5) (ys.getD (k * cb + j) z5)).2 (mmT ca cb xs ys i j z k).1 (mulS false (xs.getD (i * ca + k) z5) (ys.getD (k * cb + j) z5)).1
theorem mmT_stay {ca cb : Nat} {xs ys : List D5} {i j k q : Nat} {z : Bool} (h : (mmT ca cb xs ys i j z k).2 = true) : mmT ca cb xs ys i j z (k + q) = mmT ca cb xs ys i j z k := by
  induction q with
  | zero => rfl
  | succ q ih =>
    show (if (mmT ca cb xs ys i j z (k + q)).2 then mmT ca cb xs ys i j z (k + q) else _) = _
    rw [ih, if_pos h]
theorem mmT_next {ca cb : Nat} {xs ys : List D5} {i j k : Nat} {z : Bool} {s x y : D5} (h : mmT ca cb xs ys i j z k = (s, false)) (hx : xs.getD (i * ca + k) z5 = x) (hy : ys.getD (k * cb + j) z5 = y) : mmT ca cb xs ys i j z (k + 1) = addS (mulS false x y).2 s (mulS false x y).1 := by
  show (if (mmT ca cb xs ys i j z k).2 then _ else _) = _
  rw [h, hx, hy]; rfl
theorem mmT_up {ca cb : Nat} {xs ys : List D5} {i j k K : Nat} (h : (mmT ca cb xs ys i j false k).2 = true) (hk : k ≤ K) : (mmT ca cb xs ys i j false K).2 = true := by
  obtain ⟨q, rfl⟩ := Nat.exists_eq_add_of_le hk
  rw [mmT_stay h]; exact h
def mmF (ca cb : Nat) (xs ys : List D5) (q : Nat) : D5 := (mmT ca cb xs ys (q / cb) (q % cb) false ca).1
def mmG (ca cb : Nat) (xs ys : List D5) (q : Nat) : Bool := (mmT ca cb xs ys (q / cb) (q % cb) false ca).2
theorem mm_at {ca cb i j : Nat} {xs ys : List D5} (hj : j < cb) : mmF ca cb xs ys (i * cb + j) = (mmT ca cb xs ys i j false ca).1 ∧ mmG ca cb xs ys (i * cb + j) = (mmT ca cb xs ys i j false ca).2 := by
  unfold mmF mmG
  rw [(divQ hj).1, (divQ hj).2]; exact ⟨rfl, rfl⟩

end Go.Proofs.Ytofclfgaekjonaa
namespace Go.Proofs.Ytofclfgaekjonaa
open Go.RowKit RM
set_option linter.unusedVariables false
set_option linter.unusedSimpArgs false
attribute [local irreducible] World.setCell

set_option maxRecDepth 100000 in
set_option maxHeartbeats 4000000 in
theorem l2ng (a b c d e : Int) (w : World) (hx : vr a b c d = true) :
    Calls Try.prog 126 #[dy a b c d e] w fun ee w' => ee = .returned (dy (-a) (-b) (-c) (-d) e) ∧ Below w.heap.size w w' := by
  obtain ⟨⟨a1, a2⟩, ⟨b1, b2⟩, ⟨c1, c2⟩, ⟨d1, d2⟩⟩ := vr_iff.1 hx
  have HX := hid hx
  clear hx
  go_enter Try.func126, Try.ntmps126
  go_wp2
  go_region_with (first
   | (go_at_call 171; ((with_reducible refine (ng _ _ _ _ _ HX.out).mono ?_); rintro ee w1 ⟨rfl, hb1⟩; ((first | (have hq1 := bcell_drew hb1) | (have hq1 := bcell hb1))); obtain ⟨hc1, hf1, hz1⟩ := hq1; (try simp at hz1); (try have hx10 : w.heap.size < w1.heap.size := (by omega)); (try have hx11 : w.heap.size + 1 < w1.heap.size := (by omega)); (try have hx12 : w.heap.size + 1 + 1 < w1.heap.size := (by omega)); (try have hx13 : w.heap.size + 1 + 1 + 1 < w1.heap.size := (by omega)))))
  all_goals (go_wp2; refine bodyPost_ret (v := dy (-a) (-b) (-c) (-d) e) (by first | (simp [results, Try.results126, go_sem, *]; done) | (simp (disch := (first | omega | (simp; done) | (simp; omega))) [results, Try.results126, go_sem, *]; done) | (simp only [results, Try.results126]; go_simp; done)) rfl ⟨rfl, ?_⟩)
  all_goals (repeat' (first | (with_reducible exact Below.refl _ _) | (with_reducible refine Below.alloc ?_ ?_ _) | (with_reducible refine Below.drew ?_) | (with_reducible refine Below.setCell ?_ ?_ _) | (with_reducible refine chain ?_ (by assumption) ?_) | omega | (simp; done) | (simp; omega)))

theorem cmulO {x y : D5} {z : Bool} {g : Nat} {w : World} (hx : x.ok = true) (hy : y.ok = true) (h0 : w.cell? ⟨g, 0, none⟩ = some (.bool z)) (f0 : w.frozen? ⟨g, 0, none⟩ = false) :
    Calls Try.prog 123 #[.pointer (some ⟨g, 0, none⟩), x.v, y.v] w fun ee w' => ee = .returned (mulS false x y).1.v ∧ Below w.heap.size (w.setCell ⟨g, 0, none⟩ (.bool (z || (mulS false x y).2))) w' := by
  have := cmul (z := z) hx hy h0 f0
  rw [mulS_or] at this; exact this
theorem caddO {x y : D5} {z : Bool} {g : Nat} {w : World} (hx : x.ok = true) (hy : y.ok = true) (h0 : w.cell? ⟨g, 0, none⟩ = some (.bool z)) (f0 : w.frozen? ⟨g, 0, none⟩ = false) :
    Calls Try.prog 125 #[.pointer (some ⟨g, 0, none⟩), x.v, y.v] w fun ee w' => ee = .returned (addS false x y).1.v ∧ Below w.heap.size (w.setCell ⟨g, 0, none⟩ (.bool (z || (addS false x y).2))) w' := by
  have := cadd (z := z) hx hy h0 f0
  rw [addS_or] at this; exact this
theorem neg5_ok {x : D5} (h : x.ok = true) : (neg5 x).ok = true := by
  obtain ⟨a, b, c, d, e'⟩ := x
  obtain ⟨e, h1, h2⟩ := ok_nat h
  dsimp only at h1 h2
  subst h1
  have h3 := vd_iff.1 h2
  unfold D5.ok neg5
  dsimp only
  rw [vi_nat]
  refine vd_iff.2 ⟨by rw [vr_n]; exact h3.1, h3.2.1, by rw [ev2_n]; exact h3.2.2⟩
theorem vr_ok {x : D5} (h : x.ok = true) : vr x.a x.b x.c x.d = true := by
  obtain ⟨e, h1, h2⟩ := ok_nat h
  exact (vd_iff.1 h2).1
theorem l2n5 {x : D5} (h : x.ok = true) (w : World) : Calls Try.prog 126 #[x.v] w fun ee w' => ee = .returned (neg5 x).v ∧ Below w.heap.size w w' := l2ng _ _ _ _ _ _ (vr_ok h)
/-- the number at a place -/
theorem Rd.at9 {w : World} {g : Nat} {xs : List D5} (hA : Rd w (some ⟨g, 0, none⟩) xs) {i : Nat} (hi : i < xs.length) : Cx w g (i * 5) (xs.getD i z5) := by
  have h := hA.cx (List.getElem?_eq_getElem hi)
  rw [show xs.getD i z5 = xs[i] by simp [List.getD, hi]]
  exact h
theorem okD {xs : List D5} (h : allB xs = true) {i : Nat} (hi : i < xs.length) : (xs.getD i z5).ok = true := by
  rw [show xs.getD i z5 = xs[i] by simp [List.getD, hi]]
  exact all_get h (List.getElem?_eq_getElem hi)
/-- what a call leaves that began behind allocations -/
theorem stp_below {w W V : World} {g : Nat} {u : Value} (h1 : Below w.heap.size w W) (h2 : Below W.heap.size (W.setCell ⟨g, 0, none⟩ u) V) (hg : g < w.heap.size) : Below w.heap.size (w.setCell ⟨g, 0, none⟩ u) V := by
  have h3 := both h1 g 0 hg u
  have h4 : Below (W.setCell ⟨g, 0, none⟩ u).heap.size (W.setCell ⟨g, 0, none⟩ u) V := by rw [World.size_setCell]; exact h2
  exact chain h3 h4 (by rw [World.size_setCell]; exact h1.size)

end Go.Proofs.Ytofclfgaekjonaa
namespace Go.Proofs.Ytofclfgaekjonaa
open Go.RowKit RM
set_option linter.unusedVariables false
set_option linter.unusedSimpArgs false
attribute [local irreducible] World.setCell

end Go.Proofs.Ytofclfgaekjonaa
namespace Go.Proofs.Ytofclfgaekjonaa
open Go.RowKit RM
set_option linter.unusedVariables false
set_option linter.unusedSimpArgs false
attribute [local irreducible] World.setCell

theorem mmT_ok {ca cb : Nat} {xs ys : List D5} {i j k : Nat} (hx : allB xs = true) (hy : allB ys = true) (hX : ∀ k, k < ca → i * ca + k < xs.length) (hY : ∀ k, k < ca → k * cb + j < ys.length) (hk : k ≤ ca) : (mmT ca cb xs ys i j false k).1.ok = true := by
  induction k with
  | zero => exact z5_ok
  | succ k ih =>
    have h1 := ih (by omega)
    show (if (mmT ca cb xs ys i j false k).2 then mmT ca cb xs ys i j false k else _).1.ok = true
    split
    · exact h1
    · exact addS_ok h1 (mulS_ok (all_get hx (get_of (hX k (by omega)))) (all_get hy (get_of (hY k (by omega)))))
/-- the sums as far as they are formed: rows before i whole, row i up to k -/
def mmP (ca cb : Nat) (xs ys : List D5) (i k q : Nat) : D5 := if q / cb < i then (mmT ca cb xs ys (q / cb) (q % cb) false ca).1 else if q / cb = i then (mmT ca cb xs ys (q / cb) (q % cb) false k).1 else z5
theorem mmP_0 (ca cb : Nat) (xs ys : List D5) (N : Nat) : tab N (mmP ca cb xs ys 0 0) = List.replicate N z5 := by
  rw [tab_repl]
  refine tab_congr (fun q _ => ?_)
  unfold mmP
  rw [if_neg (Nat.not_lt_zero _)]
  split <;> rfl
theorem mmP_row (ca cb : Nat) (xs ys : List D5) (N i : Nat) : tab N (mmP ca cb xs ys i ca) = tab N (mmP ca cb xs ys (i + 1) 0) := by
  refine tab_congr (fun q _ => ?_)
  unfold mmP
  by_cases h1 : q / cb < i
  · rw [if_pos h1, if_pos (by omega)]
  · rw [if_neg h1]
    by_cases h2 : q / cb = i
    · rw [if_pos h2, if_pos (by omega)]
    · rw [if_neg h2, if_neg (by omega)]
      split <;> rfl
theorem mmP_end {ca cb : Nat} {xs ys : List D5} {N R : Nat} (hN : N = R * cb) : tab N (mmP ca cb xs ys R 0) = tab N (mmF ca cb xs ys) := by
  refine tab_congr (fun q hq => ?_)
  unfold mmP mmF
  rw [if_pos (Nat.div_lt_of_lt_mul (by rw [Nat.mul_comm, ← hN]; exact hq))]
theorem mmP_at {ca cb i j k : Nat} {xs ys : List D5} (hj : j < cb) : mmP ca cb xs ys i k (i * cb + j) = (mmT ca cb xs ys i j false k).1 := by
  unfold mmP
  rw [(divQ hj).1, (divQ hj).2, if_neg (by omega), if_pos rfl]
theorem mmP_far {ca cb i k q : Nat} {xs ys : List D5} (h : q / cb ≠ i) : mmP ca cb xs ys i (k + 1) q = mmP ca cb xs ys i k q := by
  unfold mmP
  by_cases h1 : q / cb < i
  · rw [if_pos h1, if_pos h1]
  · rw [if_neg h1, if_neg h1, if_neg h, if_neg h]
theorem row_of {cb i q : Nat} (h : q / cb = i) (hcb : 0 < cb) : ∃ j, j < cb ∧ q = i * cb + j := by
  refine ⟨q % cb, Nat.mod_lt _ hcb, ?_⟩
  rw [← h, Nat.mul_comm, Nat.div_add_mod]
/-- one step: a row of products is added -/
theorem mmP_step {ca cb N i k s : Nat} {xs ys prods : List D5} {x : D5} (hcb : 0 < cb) (hs : s = i * cb) (hx : xs.getD (i * ca + k) z5 = x) (hok : ∀ j, j < cb → (mmT ca cb xs ys i j false k).2 = false) (hm : ∀ j, j < cb → (mulS false x (ys.getD (k * cb + j) z5)).2 = false) (hp : ∀ j, j < cb → prods.getD j z5 = (mulS false x (ys.getD (k * cb + j) z5)).1) :
    tab N (addP (mmP ca cb xs ys i k) prods s cb) = tab N (mmP ca cb xs ys i (k + 1)) ∧ (∀ j, j < cb → (mmT ca cb xs ys i j false (k + 1)).2 = addH (mmP ca cb xs ys i k) prods s j) := by
  have key : ∀ j, j < cb → mmT ca cb xs ys i j false (k + 1) = addS false (mmT ca cb xs ys i j false k).1 (prods.getD j z5) := fun j hj => by
    have h1 : mmT ca cb xs ys i j false k = ((mmT ca cb xs ys i j false k).1, false) := Prod.ext rfl (hok j hj)
    rw [mmT_next h1 hx rfl, hm j hj, hp j hj]
  constructor
  · refine tab_congr (fun q _ => ?_)
    by_cases h : q / cb = i
    · obtain ⟨j, hj, rfl⟩ := row_of h hcb
      unfold addP
      rw [if_pos (by omega), mmP_at hj, mmP_at hj, key j hj, hs, Nat.add_sub_cancel_left]
    · rw [mmP_far h]
      unfold addP
      rw [if_neg (fun hh => h (by
        obtain ⟨h1, h2⟩ := hh
        obtain ⟨j, rfl⟩ := Nat.exists_eq_add_of_le h1
        rw [hs]; exact (divQ (show j < cb by omega)).1))]
  · intro j hj
    unfold addH
    rw [key j hj, hs, mmP_at hj]
theorem mmP_skip {ca cb N i k : Nat} {xs ys : List D5} (hcb : 0 < cb) (hk : k < ca) (hx : xs.getD (i * ca + k) z5 = z5) (hxs : allB xs = true) (hys : allB ys = true) (hX : ∀ k, k < ca → i * ca + k < xs.length) (hY : ∀ j, j < cb → ∀ k, k < ca → k * cb + j < ys.length) (hok : ∀ j, j < cb → (mmT ca cb xs ys i j false k).2 = false) :
    tab N (mmP ca cb xs ys i k) = tab N (mmP ca cb xs ys i (k + 1)) ∧ (∀ j, j < cb → (mmT ca cb xs ys i j false (k + 1)).2 = false) := by
  have key : ∀ j, j < cb → mmT ca cb xs ys i j false (k + 1) = ((mmT ca cb xs ys i j false k).1, false) := fun j hj => by
    have h1 : mmT ca cb xs ys i j false k = ((mmT ca cb xs ys i j false k).1, false) := Prod.ext rfl (hok j hj)
    rw [mmT_next h1 hx rfl, mulS_z (all_get hys (get_of (hY j hj k hk)))]
    dsimp only
    rw [addS_z (mmT_ok hxs hys hX (hY j hj) (Nat.le_of_lt hk))]
  constructor
  · refine tab_congr (fun q _ => ?_)
    by_cases h : q / cb = i
    · obtain ⟨j, hj, rfl⟩ := row_of h hcb
      rw [mmP_at hj, mmP_at hj, key j hj]
    · rw [mmP_far h]
  · intro j hj; rw [key j hj]
theorem mmG_of {ca cb N R i j k : Nat} {xs ys : List D5} (hN : N = R * cb) (hi : i < R) (hj : j < cb) (hk : k ≤ ca) (h : (mmT ca cb xs ys i j false k).2 = true) : anyB N (mmG ca cb xs ys) = true := by
  refine anyB_of (q := i * cb + j) (by rw [hN]; exact idx_lt hi hj) ?_
  rw [(mm_at hj).2]; exact mmT_up h hk
theorem anyB_ex {j : Nat} {G : Nat → Bool} (h : anyB j G = true) : ∃ q, q < j ∧ G q = true := by
  unfold anyB at h
  obtain ⟨q, hq, hg⟩ := List.any_eq_true.1 h
  exact ⟨q, List.mem_range.1 hq, hg⟩
theorem addS_bad {x y : D5} {z : Bool} (h : z = true) : (addS z x y).2 = true := by rw [h]; exact addS_t
theorem mmG_mul {ca cb N R i j k : Nat} {xs ys : List D5} {x : D5} (hN : N = R * cb) (hi : i < R) (hj : j < cb) (hk : k < ca) (hx : xs.getD (i * ca + k) z5 = x) (hok : (mmT ca cb xs ys i j false k).2 = false) (h : (mulS false x (ys.getD (k * cb + j) z5)).2 = true) : anyB N (mmG ca cb xs ys) = true := by
  refine mmG_of (k := k + 1) hN hi hj hk ?_
  have h1 : mmT ca cb xs ys i j false k = ((mmT ca cb xs ys i j false k).1, false) := Prod.ext rfl hok
  rw [mmT_next h1 hx rfl]
  exact addS_bad h
theorem mmG_no {ca cb N R : Nat} {xs ys : List D5} (hN : N = R * cb) (hcb : 0 < cb) (h : ∀ i j, i < R → j < cb → (mmT ca cb xs ys i j false ca).2 = false) : anyB N (mmG ca cb xs ys) = false := anyB_f (fun q hq => by
  have h1 : q / cb < R := Nat.div_lt_of_lt_mul (by rw [Nat.mul_comm, ← hN]; exact hq)
  exact h _ _ h1 (Nat.mod_lt _ hcb))
theorem mmP_ok {ca cb i j k : Nat} {xs ys : List D5} (hj : j < cb) (hxs : allB xs = true) (hys : allB ys = true) (hX : ∀ k, k < ca → i * ca + k < xs.length) (hY : ∀ k, k < ca → k * cb + j < ys.length) (hk : k ≤ ca) : (mmP ca cb xs ys i k (i * cb + j)).ok = true := by
  rw [mmP_at hj]; exact mmT_ok hxs hys hX hY hk

end Go.Proofs.Ytofclfgaekjonaa
