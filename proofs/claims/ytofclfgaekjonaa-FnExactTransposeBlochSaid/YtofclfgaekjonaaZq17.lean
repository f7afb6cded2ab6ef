/- Blc, Idn, Eq -/
import Derived.Test.YtofclfgaekjonaaZq13
import Derived.Test.YtofclfgaekjonaaZq16
import Derived.Deep.CutBlock
import Derived.Test.YtofclfgaekjonaaZq12
import Derived.Test.YtofclfgaekjonaaZq10
import Derived.BigQuiet
import Derived.Deep.QuietTactic
import Derived.Deep.LoopGhost
namespace Go.Proofs.Ytofclfgaekjonaa
open Go.RowKit RM
set_option linter.unusedVariables false
set_option linter.unusedSimpArgs false
attribute [local irreducible] World.setCell

/-- a cell of a product of Bloch matrices: the sum of the first k products, and whether one of the numbers is not valid -/
def blT (xs ys : List D5) (i j : Nat) : Nat → D5 × Bool
  | 0 => (z5, false)
  | k + 1 => ((addS false (blT xs ys i j k).1 (mulS false (xs.getD (i * 3 + k) z5) (ys.getD (k * 3 + j) z5)).1).1, (blT xs ys i j k).2 || (mulS false (xs.getD (i * 3 + k) z5) (ys.getD (k * 3 + j) z5)).2 || (addS false (blT xs ys i j k).1 (mulS false (xs.getD (i * 3 + k) z5) (ys.getD (k * 3 + j) z5)).1).2)
theorem blT_mm (xs ys : List D5) (i j k : Nat) : (mmT 3 3 xs ys i j false k).2 = (blT xs ys i j k).2 ∧ ((blT xs ys i j k).2 = false → mmT 3 3 xs ys i j false k = blT xs ys i j k) := by
  induction k with
  | zero => exact ⟨rfl, fun _ => rfl⟩
  | succ k ih =>
    obtain ⟨h1, h2⟩ := ih
    cases hq : (blT xs ys i j k).2
    · have h3 := h2 hq
      have e : mmT 3 3 xs ys i j false (k + 1) = addS (mulS false (xs.getD (i * 3 + k) z5) (ys.getD (k * 3 + j) z5)).2 (blT xs ys i j k).1 (mulS false (xs.getD (i * 3 + k) z5) (ys.getD (k * 3 + j) z5)).1 := by
        refine mmT_next (s := (blT xs ys i j k).1) ?_ rfl rfl
        rw [h3]; exact Prod.ext rfl hq
      have e2 : blT xs ys i j (k + 1) = addS (mulS false (xs.getD (i * 3 + k) z5) (ys.getD (k * 3 + j) z5)).2 (blT xs ys i j k).1 (mulS false (xs.getD (i * 3 + k) z5) (ys.getD (k * 3 + j) z5)).1 := by
        rw [addS_or]
        show (_, (blT xs ys i j k).2 || _ || _) = _
        rw [hq, Bool.false_or]
      rw [e, e2]
      exact ⟨rfl, fun _ => rfl⟩
    · rw [hq] at h1
      have e2 : (blT xs ys i j (k + 1)).2 = true := by
        show ((blT xs ys i j k).2 || _ || _) = true
        rw [hq]; simp
      rw [e2]
      exact ⟨mmT_up h1 (Nat.le_succ k), fun h => by cases h⟩
def blF (xs ys : List D5) (q : Nat) : D5 := (blT xs ys (q / 3) (q % 3) 3).1
def blG (xs ys : List D5) (q : Nat) : Bool := (blT xs ys (q / 3) (q % 3) 3).2
theorem bl_at {i j : Nat} {xs ys : List D5} (hj : j < 3) : blF xs ys (i * 3 + j) = (blT xs ys i j 3).1 ∧ blG xs ys (i * 3 + j) = (blT xs ys i j 3).2 := by
  unfold blF blG
  rw [(divQ hj).1, (divQ hj).2]; exact ⟨rfl, rfl⟩
theorem blG_mm (xs ys : List D5) : blG xs ys = mmG 3 3 xs ys := by
  funext q; exact (blT_mm xs ys (q / 3) (q % 3) 3).1.symm
theorem sofar_mm {z : Bool} {zs xs ys : List D5} {n : Nat} (h : Sofar z zs n (blF xs ys) (blG xs ys)) : Sofar z zs n (mmF 3 3 xs ys) (mmG 3 3 xs ys) := by
  obtain ⟨h1, h2, h3⟩ := h
  rw [blG_mm] at h2
  refine ⟨h1, h2, fun hz => ?_⟩
  rw [h3 hz]
  refine tab_congr (fun q hq => ?_)
  have hg := anyB_get (h2.symm.trans hz) hq
  rw [← blG_mm] at hg
  show (blT xs ys (q / 3) (q % 3) 3).1 = (mmT 3 3 xs ys (q / 3) (q % 3) false 3).1
  rw [(blT_mm xs ys (q / 3) (q % 3) 3).2 hg]
/-- what the model's product leaves -/
def BM (w w' : World) (ee : Ending) (gc : Nat) (z0 : Bool) (F : Nat → D5) (G : Nat → Bool) : Prop := ∃ (z : Bool) (zs : List D5) (Bo : Option Addr) (cq : Nat), ee = .returned (bv Bo 9 cq) ∧ Sofar z zs 9 F G ∧ Rd w' Bo zs ∧ (∀ a, Bo = some a → w.heap.size ≤ a.block) ∧ Below w.heap.size (w.setCell ⟨gc, 0, none⟩ (.bool z)) w'
theorem BM.i {w w' : World} {ee : Ending} {gc : Nat} {z0 : Bool} {F : Nat → D5} {G : Nat → Bool} {z : Bool} {zs : List D5} {Bo : Option Addr} {cq : Nat} (h1 : ee = .returned (bv Bo 9 cq)) (h2 : Sofar z zs 9 F G) (h3 : Rd w' Bo zs) (h4 : ∀ a, Bo = some a → w.heap.size ≤ a.block) (h5 : Below w.heap.size (w.setCell ⟨gc, 0, none⟩ (.bool z)) w') : BM w w' ee gc z0 F G := ⟨z, zs, Bo, cq, h1, h2, h3, h4, h5⟩

set_option maxRecDepth 100000 in
set_option maxHeartbeats 8000000 in
theorem blm {g0 h0 o0 cp cp' : Nat} {xs ys : List D5} {w : World} (hA : Rd w (some ⟨g0, 0, none⟩) xs) (hB : Rd w (some ⟨h0, o0, none⟩) ys) (hn : xs.length = 9) (hm : ys.length = 9) (hok : allB xs = true) (hok2 : allB ys = true) {gc : Nat} (hc0 : Bx w gc 116 #[.bool false]) (hg : g0 ≠ gc) (hh : h0 ≠ gc) :
    Calls Try.prog 82 #[.pointer (some ⟨gc, 0, none⟩), bv (some ⟨g0, 0, none⟩) 9 cp, bv (some ⟨h0, o0, none⟩) 9 cp'] w fun ee w' => BM w w' ee gc false (mmF 3 3 xs ys) (mmG 3 3 xs ys) := by
  obtain ⟨i0, hi0, hu0, hu1, hu2⟩ := info_parts infoD
  have XC := hid hc0
  have hgc := hc0.lt
  clear hc0
  have HA := hid hA
  have HB := hid hB
  have HN := hid hn
  have HM := hid hm
  have HO := hid hok
  have HP := hid hok2
  clear hA hB hn hm hok hok2
  obtain ⟨F, hF⟩ : ∃ F, F = blF xs ys := ⟨_, rfl⟩
  obtain ⟨G, hG⟩ : ∃ G, G = blG xs ys := ⟨_, rfl⟩
  have HF := hid hF
  have HG := hid hG
  clear hF hG
  go_enter Try.func82, Try.ntmps82
  go_wp2_with (fail)
  go_loopg [8] 3 (fun q s1 wr => ∃ (i : Nat) (v : Value) (z : Bool) (zs : List D5), i + q = 3 ∧ s1 = .int .i64 (i : Int) ∧ Hid (Bx wr (w.heap.size) 51 #[.slice (some ⟨g0, 0, none⟩) 9 cp]) ∧ Hid (Bx wr (w.heap.size + 1) 51 #[.slice (some ⟨h0, o0, none⟩) 9 cp']) ∧ Hid (Bx wr (w.heap.size + 1 + 1) 51 #[.slice none 0 0]) ∧ Hid (Bx wr (w.heap.size + 1 + 1 + 1) 51 #[v]) ∧ Hid (Bx wr (gc) 116 #[.bool z]) ∧ Hid (Own5 wr (w.heap.size + 1 + 1 + 1 + 1) 99 v zs) ∧ Hid (Sofar z zs (i * 3) F G) ∧ w.heap.size + 1 + 1 + 1 + 1 ≤ wr.heap.size ∧ Hid (Below w.heap.size (w.setCell ⟨gc, 0, none⟩ (.bool z)) wr))
  case atStart =>
    have RC := XC.out
    refine ⟨0, .slice none 0 0, false, [], by omega, rfl, (by show Bx _ _ _ _; exact (((Bx.new rfl).alloc _).alloc _).alloc _), (by show Bx _ _ _ _; exact ((Bx.new (by simp)).alloc _).alloc _), (by show Bx _ _ _ _; exact (Bx.new (by simp)).alloc _), (by show Bx _ _ _ _; exact Bx.new (by simp)), (by show Bx _ _ _ _; exact (((RC.alloc _).alloc _).alloc _).alloc _), Own5.nil _ _ _, ?_, by simp, ?_⟩
    · show Sofar _ _ _ _ _
      rw [Nat.zero_mul]; exact Sofar.start _ _
    · show Below _ _ _
      have h0 := bad_0 (B := w.heap.size) (RC.c 0 rfl)
      exact (((h0.alloc (Nat.le_refl _) _).alloc (by simp) _).alloc (by simp; omega) _).alloc (by simp; omega) _
  case round =>
    obtain ⟨i, v, z, zs, hi, rfl, Xa, Xb, Xz, Xo, Xf, HOw, HS, hsz, HBo⟩ := hrel
    clear XC
    have hBq := HBo.out.size
    rw [World.size_setCell] at hBq
    have ca0 := Xa.out.c 0 rfl
    have la := Xa.out.lt
    have cb0 := Xb.out.c 0 rfl
    have lb := Xb.out.lt
    have cz0 := Xz.out.c 0 rfl
    have lz := Xz.out.lt
    have fz := Xz.out.f
    have co0 := Xo.out.c 0 rfl
    have lo := Xo.out.lt
    have fo := Xo.out.f
    have cf0 := Xf.out.c 0 rfl
    have lf := Xf.out.lt
    have ff := Xf.out.f
    cases gk with
    | zero =>
      have i9 : ¬ ((i : Int) < 3) := by omega
      have hS9 := HS.out
      rw [show i * 3 = 9 by omega] at hS9
      obtain ⟨Bo, cq, hv, hRd, hBa⟩ := HOw.out.form
      rw [hS9.1] at hv
      subst hv
      have HBa := hid hBa
      have HRd := hid hRd
      rw [HF.out, HG.out] at hS9
      have HS9 := hid (sofar_mm hS9)
      clear hRd hBa hS9
      go_wp2_with (fail)
      refine bodyPost_ret (v := bv Bo 9 cq) (by first | (simp [results, Try.results82, go_sem, *]; done) | (simp (disch := (first | omega | (simp; done) | (simp; omega))) [results, Try.results82, go_sem, *]; done) | (simp only [results, Try.results82]; go_simp; done)) rfl (BM.i (z := z) (zs := zs) rfl ?_ ?_ ?_ ?_)
      · exact HS9.out
      · (repeat' (first | exact HRd.out | refine Rd.far ?_ (fun a ha => by have := (HBa.out a ha).1; show _ ≠ w.heap.size + 1 + 1; omega) _))
      · intro a ha; have := (HBa.out a ha).1; omega
      · have hB := HBo.out
        (repeat' (first | (with_reducible exact Below.refl _ _) | (with_reducible assumption) | (with_reducible refine Below.alloc ?_ ?_ _) | (with_reducible refine Below.drew ?_) | (with_reducible refine below_drewN ?_ _) | (with_reducible refine Below.setCell ?_ ?_ _) | (with_reducible refine chain ?_ (by assumption) ?_) | omega | (simp; done) | (simp; omega)))
    | succ m9 =>
      have hlti : i < 3 := by omega
      have i1 : (i : Int) < 3 := by omega
      go_wp2_with (fail)
      go_loopg [9] 3 (fun q s1 wr => ∃ (j : Nat) (v : Value) (z : Bool) (zs : List D5), j + q = 3 ∧ s1 = .int .i64 (j : Int) ∧ Hid (Bx wr (w.heap.size) 51 #[.slice (some ⟨g0, 0, none⟩) 9 cp]) ∧ Hid (Bx wr (w.heap.size + 1) 51 #[.slice (some ⟨h0, o0, none⟩) 9 cp']) ∧ Hid (Bx wr (w.heap.size + 1 + 1) 51 #[.slice none 0 0]) ∧ Hid (Bx wr (w.heap.size + 1 + 1 + 1) 51 #[v]) ∧ Hid (Bx wr (gc) 116 #[.bool z]) ∧ Hid (Own5 wr (w.heap.size + 1 + 1 + 1 + 1) 99 v zs) ∧ Hid (Sofar z zs (i * 3 + j) F G) ∧ w.heap.size + 1 + 1 + 1 + 1 ≤ wr.heap.size ∧ Hid (Below w.heap.size (w.setCell ⟨gc, 0, none⟩ (.bool z)) wr))
      case atStart => exact ⟨0, v, z, zs, by omega, rfl, Xa, Xb, Xz, Xo, Xf, HOw, HS, hsz, HBo⟩
      case round =>
        clear Xa la ca0 Xb lb cb0 Xz lz cz0 fz Xo lo co0 fo Xf lf cf0 ff HOw HS hsz HBo hBq
        obtain ⟨j, v, z, zs, hj, rfl, Xa, Xb, Xz, Xo, Xf, HOw, HS, hsz, HBo⟩ := hrel
        have hBq := HBo.out.size
        rw [World.size_setCell] at hBq
        have ca0 := Xa.out.c 0 rfl
        have la := Xa.out.lt
        have cb0 := Xb.out.c 0 rfl
        have lb := Xb.out.lt
        have cz0 := Xz.out.c 0 rfl
        have lz := Xz.out.lt
        have fz := Xz.out.f
        have co0 := Xo.out.c 0 rfl
        have lo := Xo.out.lt
        have fo := Xo.out.f
        have cf0 := Xf.out.c 0 rfl
        have lf := Xf.out.lt
        have ff := Xf.out.f
        cases gk with
        | zero =>
          have j9 : ¬ ((j : Int) < 3) := by omega
          have e33 : i * 3 + j = (i + 1) * 3 := by omega
          go_wp2_with (fail)
          go_roundg m9
          case measure => omega
          case rel =>
            refine ⟨i + 1, v, z, zs, by omega, by go_num, Xa, Xb, Xz, Xo, Xf, HOw, ?_, hsz, HBo⟩
            show Sofar _ _ _ _ _
            rw [← e33]; exact HS.out
        | succ m2 =>
          obtain ⟨wo, rfl⟩ : ∃ wo, wo = wr := ⟨_, rfl⟩
          have hltj : j < 3 := by omega
          have j1 : (j : Int) < 3 := by omega
          have hgw : gc < wo.heap.size := by omega
          go_upto_block 4 with (fail)
          go_cut [] (fun wx => Hid ((blT xs ys i j 3).1.ok = true) ∧ Hid (Bx wx wo.heap.size 99 #[.int .i64 (blT xs ys i j 3).1.a, .int .i64 (blT xs ys i j 3).1.b, .int .i64 (blT xs ys i j 3).1.c, .int .i64 (blT xs ys i j 3).1.d, .int .i64 (blT xs ys i j 3).1.e]) ∧ Hid (Below wo.heap.size (wo.setCell ⟨gc, 0, none⟩ (.bool (z || (blT xs ys i j 3).2))) wx))
          case first =>
            have hBW0 : Below wo.heap.size (wo.setCell ⟨gc, 0, none⟩ (.bool z)) wo := bad_0 (Xf.out.c 0 rfl)
            have HW0 := hid hBW0
            clear hBW0
            go_wp2_with (fail)
            go_loopg [11] 3 (fun q s1 wk => ∃ (k : Nat) (s : D5) (z' : Bool), k + q = 3 ∧ s1 = .int .i64 (k : Int) ∧ Hid ((blT xs ys i j k).1 = s ∧ (z || (blT xs ys i j k).2) = z') ∧ Hid (s.ok = true) ∧ Hid (Bx wk wo.heap.size 99 #[.int .i64 s.a, .int .i64 s.b, .int .i64 s.c, .int .i64 s.d, .int .i64 s.e]) ∧ Hid (Below wo.heap.size (wo.setCell ⟨gc, 0, none⟩ (.bool z')) wk))
            case atStart =>
              refine ⟨0, z5, z, by omega, rfl, ?_, z5_ok, ?_, ?_⟩
              · show _ ∧ _; exact ⟨rfl, by show (z || false) = z; simp⟩
              · show Bx _ _ _ _; first | exact Bx.new rfl | exact Bx.set5 _ (x := z5) (Bx.new rfl)
              · show Below _ _ _; exact HW0.out.alloc (Nat.le_refl _) _
            case round =>
              obtain ⟨k, s, z', hk, rfl, HT, HKs, XS, HBk⟩ := hrel
              clear HW0
              have hBk := HBk.out.size
              rw [World.size_setCell] at hBk
              have ea0 := kbad HBk.out (by omega) (Xa.out.c 0 rfl)
              have eb0 := kbad HBk.out (by omega) (Xb.out.c 0 rfl)
              have XF := hid (Xf.out.bad HBk.out)
              have ef0 := XF.out.c 0 rfl
              have eff := XF.out.f
              clear ca0 la cb0 lb cz0 lz fz co0 lo fo cf0 lf ff
              cases gk with
              | zero =>
                have k9 : ¬ ((k : Int) < 3) := by omega
                have hT9 := HT.out
                rw [show k = 3 by omega] at hT9
                have HT9 := hid hT9
                clear hT9
                go_wp2_with (fail)
                go_meet
                obtain ⟨hT1, hT2⟩ := HT9.out
                rw [hT1, hT2]
                exact ⟨HKs, XS, HBk⟩
              | succ m3 =>
                have hltk : k < 3 := by omega
                have k1 : (k : Int) < 3 := by omega
                obtain ⟨sa, hsa⟩ : ∃ sa, sa = i * 3 := ⟨_, rfl⟩
                obtain ⟨sb, hsb⟩ : ∃ sb, sb = k * 3 := ⟨_, rfl⟩
                have sa1 : (3 : Int) * (i : Int) = (sa : Int) := by omega
                have sb1 : (3 : Int) * (k : Int) = (sb : Int) := by omega
                obtain ⟨u, hu⟩ : ∃ u, u = sa + k := ⟨_, rfl⟩
                obtain ⟨t, ht⟩ : ∃ t, t = sb + j := ⟨_, rfl⟩
                have hun : u < 9 := by omega
                have htm : t < 9 := by omega
                have hx := get_of (xs := xs) (q := u) (by rw [HN.out]; exact hun)
                have hy := get_of (xs := ys) (q := t) (by rw [HM.out]; exact htm)
                obtain ⟨x, hxe⟩ : ∃ x, x = xs.getD u z5 := ⟨_, rfl⟩
                obtain ⟨y, hye⟩ : ∃ y, y = ys.getD t z5 := ⟨_, rfl⟩
                rw [← hxe] at hx
                rw [← hye] at hy
                have HX : Hid (xs.getD (i * 3 + k) z5 = x) := by show _ = x; rw [hxe, hu, hsa]
                have HY : Hid (ys.getD (k * 3 + j) z5 = y) := by show _ = y; rw [hye, ht, hsb]
                have HKx := hid (all_get HO.out hx)
                have HKy := hid (all_get HP.out hy)
                have hCx := HA.out.cx hx
                obtain ⟨h9, o9, e9, hCy⟩ := HB.out t y hy
                simp only [Option.some.injEq, Addr.mk.injEq, and_true] at e9
                obtain ⟨rfl, rfl⟩ := e9
                have far0 : ∀ k, k < w.heap.size → k ≠ gc → wr.heap[k]? = w.heap[k]? := fun k hk hne => ((HBk.out.block k (by omega)).trans (Below.heap_setCell _ _ _ _ (by show k ≠ gc; exact hne))).trans ((HBo.out.block k (by omega)).trans (Below.heap_setCell _ _ _ _ (by show k ≠ gc; exact hne)))
                have hga := hCx.lt
                have hgb := hCy.lt
                obtain ⟨p0, p1, p2, p3, p4⟩ := hCx.at_ (far0 g0 hCx.lt hg)
                obtain ⟨q0, q1, q2, q3, q4⟩ := hCy.at_ (far0 h0 hCy.lt hh)
                have e2 : IntKind.i64.wrap (sa : Int) = (sa : Int) := IntWalk.i64_in _ (by omega)
                have e3 : IntKind.i64.wrap ((sa : Int) + (k : Int)) = (u : Int) := by rw [hu, Int.natCast_add]; exact IntWalk.i64_in _ (by omega)
                have e4 : (u : Int) < 9 := by omega
                have e5 : IntKind.i64.wrap (sb : Int) = (sb : Int) := IntWalk.i64_in _ (by omega)
                have e6 : IntKind.i64.wrap ((sb : Int) + (j : Int)) = (t : Int) := by rw [ht, Int.natCast_add]; exact IntWalk.i64_in _ (by omega)
                have e7 : (t : Int) < 9 := by omega
                have s0 := XS.out.c 0 rfl
                have s1 := XS.out.c 1 rfl
                have s2 := XS.out.c 2 rfl
                have s3 := XS.out.c 3 rfl
                have s4 := XS.out.c 4 rfl
                clear far0 hCx hCy hx hy hxe hye hu ht hsa hsb
                go_wp2_with (fail)
                have ys0 : wr.drew.cell? ⟨wo.heap.size, 0, none⟩ = some (.int .i64 s.a) := s0
                have ys1 : wr.drew.cell? ⟨wo.heap.size, 1, none⟩ = some (.int .i64 s.b) := s1
                have ys2 : wr.drew.cell? ⟨wo.heap.size, 2, none⟩ = some (.int .i64 s.c) := s2
                have ys3 : wr.drew.cell? ⟨wo.heap.size, 3, none⟩ = some (.int .i64 s.d) := s3
                have ys4 : wr.drew.cell? ⟨wo.heap.size, 4, none⟩ = some (.int .i64 s.e) := s4
                have yea0 : wr.drew.cell? ⟨w.heap.size, 0, none⟩ = some (.slice (some ⟨g0, 0, none⟩) 9 cp) := ea0
                have yeb0 : wr.drew.cell? ⟨w.heap.size + 1, 0, none⟩ = some (.slice (some ⟨h0, o0, none⟩) 9 cp') := eb0
                have yp0 : wr.drew.cell? ⟨g0, u * 5, none⟩ = some (.int .i64 x.a) := p0
                have yp1 : wr.drew.cell? ⟨g0, u * 5 + 1, none⟩ = some (.int .i64 x.b) := p1
                have yp2 : wr.drew.cell? ⟨g0, u * 5 + 2, none⟩ = some (.int .i64 x.c) := p2
                have yp3 : wr.drew.cell? ⟨g0, u * 5 + 3, none⟩ = some (.int .i64 x.d) := p3
                have yp4 : wr.drew.cell? ⟨g0, u * 5 + 4, none⟩ = some (.int .i64 x.e) := p4
                have yq0 : wr.drew.cell? ⟨h0, o0 + t * 5, none⟩ = some (.int .i64 y.a) := q0
                have yq1 : wr.drew.cell? ⟨h0, o0 + t * 5 + 1, none⟩ = some (.int .i64 y.b) := q1
                have yq2 : wr.drew.cell? ⟨h0, o0 + t * 5 + 2, none⟩ = some (.int .i64 y.c) := q2
                have yq3 : wr.drew.cell? ⟨h0, o0 + t * 5 + 3, none⟩ = some (.int .i64 y.d) := q3
                have yq4 : wr.drew.cell? ⟨h0, o0 + t * 5 + 4, none⟩ = some (.int .i64 y.e) := q4
                refine wp_region_x (fun w' => w'.cell? ⟨wo.heap.size, 0, none⟩ = some (.int .i64 s.a) ∧ w'.cell? ⟨wo.heap.size, 1, none⟩ = some (.int .i64 s.b) ∧ w'.cell? ⟨wo.heap.size, 2, none⟩ = some (.int .i64 s.c) ∧ w'.cell? ⟨wo.heap.size, 3, none⟩ = some (.int .i64 s.d) ∧ w'.cell? ⟨wo.heap.size, 4, none⟩ = some (.int .i64 s.e) ∧ w'.cell? ⟨w.heap.size, 0, none⟩ = some (.slice (some ⟨g0, 0, none⟩) 9 cp) ∧ w'.cell? ⟨w.heap.size + 1, 0, none⟩ = some (.slice (some ⟨h0, o0, none⟩) 9 cp') ∧ w'.cell? ⟨g0, u * 5, none⟩ = some (.int .i64 x.a) ∧ w'.cell? ⟨g0, u * 5 + 1, none⟩ = some (.int .i64 x.b) ∧ w'.cell? ⟨g0, u * 5 + 2, none⟩ = some (.int .i64 x.c) ∧ w'.cell? ⟨g0, u * 5 + 3, none⟩ = some (.int .i64 x.d) ∧ w'.cell? ⟨g0, u * 5 + 4, none⟩ = some (.int .i64 x.e) ∧ w'.cell? ⟨h0, o0 + t * 5, none⟩ = some (.int .i64 y.a) ∧ w'.cell? ⟨h0, o0 + t * 5 + 1, none⟩ = some (.int .i64 y.b) ∧ w'.cell? ⟨h0, o0 + t * 5 + 2, none⟩ = some (.int .i64 y.c) ∧ w'.cell? ⟨h0, o0 + t * 5 + 3, none⟩ = some (.int .i64 y.d) ∧ w'.cell? ⟨h0, o0 + t * 5 + 4, none⟩ = some (.int .i64 y.e)) 21 (by kernel_rfl) ⟨ys0, ys1, ys2, ys3, ys4, yea0, yeb0, yp0, yp1, yp2, yp3, yp4, yq0, yq1, yq2, yq3, yq4⟩ (fun hS0 => ?_)
                refine wpAnyX_take (i := 0) (oi := _) (v := ?_) rfl (by kernel_rfl) (by kernel_rfl) (by kernel_rfl) (by kernel_rfl) (fun _ _ _ h => h) (Or.inl ⟨by rfl, ?_⟩) hS0 ?_
                rotate_left 1
                · (intro w hSw; (try dsimp only at hSw); go_simp; (try with_reducible rfl))
                try simp only [Act.put, List.setIfInBounds_toArray, List.set_cons_zero, List.set_cons_succ]
                refine wpAnyX_take (i := 1) (oi := _) (v := ?_) rfl (by kernel_rfl) (by kernel_rfl) (by kernel_rfl) (by kernel_rfl) (fun _ _ _ h => h) (Or.inl ⟨by rfl, ?_⟩) hS0 ?_
                rotate_left 1
                · (intro w hSw; (try dsimp only at hSw); go_simp; (try with_reducible rfl))
                try simp only [Act.put, List.setIfInBounds_toArray, List.set_cons_zero, List.set_cons_succ]
                refine wpAnyX_take (i := 2) (oi := _) (v := ?_) rfl (by kernel_rfl) (by kernel_rfl) (by kernel_rfl) (by kernel_rfl) (fun _ _ _ h => h) (Or.inl ⟨by rfl, ?_⟩) hS0 ?_
                rotate_left 1
                · (intro w hSw; (try dsimp only at hSw); go_simp; (try with_reducible rfl))
                try simp only [Act.put, List.setIfInBounds_toArray, List.set_cons_zero, List.set_cons_succ]
                refine wpAnyX_take (i := 3) (oi := _) (v := ?_) rfl (by kernel_rfl) (by kernel_rfl) (by kernel_rfl) (by kernel_rfl) (fun _ _ _ h => h) (Or.inl ⟨by rfl, ?_⟩) hS0 ?_
                rotate_left 1
                · (intro w hSw; (try dsimp only at hSw); go_simp; (try with_reducible rfl))
                try simp only [Act.put, List.setIfInBounds_toArray, List.set_cons_zero, List.set_cons_succ]
                refine wpAnyX_take (i := 4) (oi := _) (v := ?_) rfl (by kernel_rfl) (by kernel_rfl) (by kernel_rfl) (by kernel_rfl) (fun _ _ _ h => h) (Or.inl ⟨by rfl, ?_⟩) hS0 ?_
                rotate_left 1
                · (intro w hSw; (try dsimp only at hSw); go_simp; (try with_reducible rfl))
                try simp only [Act.put, List.setIfInBounds_toArray, List.set_cons_zero, List.set_cons_succ]
                refine wpAnyX_take (i := 5) (oi := _) (v := ?_) rfl (by kernel_rfl) (by kernel_rfl) (by kernel_rfl) (by kernel_rfl) (fun _ _ _ h => h) (Or.inl ⟨by rfl, ?_⟩) hS0 ?_
                rotate_left 1
                · (intro w hSw; (try dsimp only at hSw); go_simp; (try with_reducible rfl))
                try simp only [Act.put, List.setIfInBounds_toArray, List.set_cons_zero, List.set_cons_succ]
                refine wpAnyX_take (i := 6) (oi := _) (v := ?_) rfl (by kernel_rfl) (by kernel_rfl) (by kernel_rfl) (by kernel_rfl) (fun _ _ _ h => h) (Or.inl ⟨by rfl, ?_⟩) hS0 ?_
                rotate_left 1
                · (intro w hSw; (try dsimp only at hSw); go_simp; (try with_reducible rfl))
                try simp only [Act.put, List.setIfInBounds_toArray, List.set_cons_zero, List.set_cons_succ]
                refine wpAnyX_take (i := 7) (oi := _) (v := ?_) rfl (by kernel_rfl) (by kernel_rfl) (by kernel_rfl) (by kernel_rfl) (fun _ _ _ h => h) (Or.inl ⟨by rfl, ?_⟩) hS0 ?_
                rotate_left 1
                · (intro w hSw; (try dsimp only at hSw); go_simp; (try with_reducible rfl))
                try simp only [Act.put, List.setIfInBounds_toArray, List.set_cons_zero, List.set_cons_succ]
                refine wpAnyX_take (i := 8) (oi := _) (v := ?_) rfl (by kernel_rfl) (by kernel_rfl) (by kernel_rfl) (by kernel_rfl) (fun _ _ _ h => h) (Or.inl ⟨by rfl, ?_⟩) hS0 ?_
                rotate_left 1
                · (intro w hSw; (try dsimp only at hSw); go_simp; (try with_reducible rfl))
                try simp only [Act.put, List.setIfInBounds_toArray, List.set_cons_zero, List.set_cons_succ]
                refine wpAnyX_take (i := 9) (oi := _) (v := ?_) rfl (by kernel_rfl) (by kernel_rfl) (by kernel_rfl) (by kernel_rfl) (fun _ _ _ h => h) (Or.inl ⟨by rfl, ?_⟩) hS0 ?_
                rotate_left 1
                · (intro w hSw; (try dsimp only at hSw); go_simp; (try with_reducible rfl))
                try simp only [Act.put, List.setIfInBounds_toArray, List.set_cons_zero, List.set_cons_succ]
                refine wpAnyX_take (i := 10) (oi := _) (v := ?_) rfl (by kernel_rfl) (by kernel_rfl) (by kernel_rfl) (by kernel_rfl) (fun _ _ _ h => h) (Or.inl ⟨by rfl, ?_⟩) hS0 ?_
                rotate_left 1
                · (intro w hSw; (try dsimp only at hSw); go_simp; (try with_reducible rfl))
                try simp only [Act.put, List.setIfInBounds_toArray, List.set_cons_zero, List.set_cons_succ]
                refine wpAnyX_take (i := 11) (oi := _) (v := ?_) rfl (by kernel_rfl) (by kernel_rfl) (by kernel_rfl) (by kernel_rfl) (fun _ _ _ h => h) (Or.inl ⟨by rfl, ?_⟩) hS0 ?_
                rotate_left 1
                · (intro w hSw; (try dsimp only at hSw); go_simp; (try with_reducible rfl))
                try simp only [Act.put, List.setIfInBounds_toArray, List.set_cons_zero, List.set_cons_succ]
                refine wpAnyX_take (i := 12) (oi := _) (v := ?_) rfl (by kernel_rfl) (by kernel_rfl) (by kernel_rfl) (by kernel_rfl) (fun _ _ _ h => h) (Or.inl ⟨by rfl, ?_⟩) hS0 ?_
                rotate_left 1
                · (intro w hSw; (try dsimp only at hSw); go_simp; (try with_reducible rfl))
                try simp only [Act.put, List.setIfInBounds_toArray, List.set_cons_zero, List.set_cons_succ]
                refine wpAnyX_take (i := 13) (oi := _) (v := ?_) rfl (by kernel_rfl) (by kernel_rfl) (by kernel_rfl) (by kernel_rfl) (fun _ _ _ h => h) (Or.inl ⟨by rfl, ?_⟩) hS0 ?_
                rotate_left 1
                · (intro w hSw; (try dsimp only at hSw); go_simp; (try with_reducible rfl))
                try simp only [Act.put, List.setIfInBounds_toArray, List.set_cons_zero, List.set_cons_succ]
                refine wpAnyX_take (i := 14) (oi := _) (v := ?_) rfl (by kernel_rfl) (by kernel_rfl) (by kernel_rfl) (by kernel_rfl) (fun _ _ _ h => h) (Or.inl ⟨by rfl, ?_⟩) hS0 ?_
                rotate_left 1
                · (intro w hSw; (try dsimp only at hSw); go_simp; (try with_reducible rfl))
                try simp only [Act.put, List.setIfInBounds_toArray, List.set_cons_zero, List.set_cons_succ]
                refine wpAnyX_take (i := 15) (oi := _) (v := ?_) rfl (by kernel_rfl) (by kernel_rfl) (by kernel_rfl) (by kernel_rfl) (fun _ _ _ h => h) (Or.inl ⟨by rfl, ?_⟩) hS0 ?_
                rotate_left 1
                · (intro w hSw; (try dsimp only at hSw); go_simp; (try with_reducible rfl))
                try simp only [Act.put, List.setIfInBounds_toArray, List.set_cons_zero, List.set_cons_succ]
                refine wpAnyX_take (i := 16) (oi := _) (v := ?_) rfl (by kernel_rfl) (by kernel_rfl) (by kernel_rfl) (by kernel_rfl) (fun _ _ _ h => h) (Or.inl ⟨by rfl, ?_⟩) hS0 ?_
                rotate_left 1
                · (intro w hSw; (try dsimp only at hSw); go_simp; (try with_reducible rfl))
                try simp only [Act.put, List.setIfInBounds_toArray, List.set_cons_zero, List.set_cons_succ]
                refine wpAnyX_take (i := 17) (oi := _) (v := ?_) rfl (by kernel_rfl) (by kernel_rfl) (by kernel_rfl) (by kernel_rfl) (fun _ _ _ h => h) (Or.inl ⟨by rfl, ?_⟩) hS0 ?_
                rotate_left 1
                · (intro w hSw; (try dsimp only at hSw); go_simp; (try with_reducible rfl))
                try simp only [Act.put, List.setIfInBounds_toArray, List.set_cons_zero, List.set_cons_succ]
                refine wpAnyX_take (i := 18) (oi := _) (v := ?_) rfl (by kernel_rfl) (by kernel_rfl) (by kernel_rfl) (by kernel_rfl) (fun _ _ _ h => h) (Or.inl ⟨by rfl, ?_⟩) hS0 ?_
                rotate_left 1
                · (intro w hSw; (try dsimp only at hSw); go_simp; (try with_reducible rfl))
                try simp only [Act.put, List.setIfInBounds_toArray, List.set_cons_zero, List.set_cons_succ]
                refine wpAnyX_one (i := 19) (o := _) rfl (by kernel_rfl) (fun K hK => ?_)
                go_simp
                refine (cmulO (x := x) (y := y) (z := z') HKx.out HKy.out (by exact ef0) (by exact eff 0)).mono ?_
                rintro ee wa ⟨rfl, hba⟩
                have hbb := bad_drew hba
                have hza := bad_size hbb
                have Yf := Bx.bad XF.out hbb
                have yf0 := Yf.c 0 rfl
                have yff := Yf.f
                refine hK.out _ _ (fun _ => ?_) (fun hS1 => ?_)
                · exact ⟨kbad hba (by omega) (hS0.1), kbad hba (by omega) (hS0.2.1), kbad hba (by omega) (hS0.2.2.1), kbad hba (by omega) (hS0.2.2.2.1), kbad hba (by omega) (hS0.2.2.2.2.1), kbad hba (by omega) (hS0.2.2.2.2.2.1), kbad hba (by omega) (hS0.2.2.2.2.2.2.1), kbad hba (by omega) (hS0.2.2.2.2.2.2.2.1), kbad hba (by omega) (hS0.2.2.2.2.2.2.2.2.1), kbad hba (by omega) (hS0.2.2.2.2.2.2.2.2.2.1), kbad hba (by omega) (hS0.2.2.2.2.2.2.2.2.2.2.1), kbad hba (by omega) (hS0.2.2.2.2.2.2.2.2.2.2.2.1), kbad hba (by omega) (hS0.2.2.2.2.2.2.2.2.2.2.2.2.1), kbad hba (by omega) (hS0.2.2.2.2.2.2.2.2.2.2.2.2.2.1), kbad hba (by omega) (hS0.2.2.2.2.2.2.2.2.2.2.2.2.2.2.1), kbad hba (by omega) (hS0.2.2.2.2.2.2.2.2.2.2.2.2.2.2.2.1), kbad hba (by omega) (hS0.2.2.2.2.2.2.2.2.2.2.2.2.2.2.2.2)⟩
                clear hK K
                have hS1 := hS1 (by decide)
                try simp only [Act.put, List.setIfInBounds_toArray, List.set_cons_zero, List.set_cons_succ]
                refine wpAnyX_one (i := 20) (o := _) rfl (by kernel_rfl) (fun K hK => ?_)
                go_simp
                refine (caddO (x := s) (y := (mulS false x y).1) (z := z' || (mulS false x y).2) HKs.out (mulS_ok HKx.out HKy.out) (by exact yf0) (by exact yff 0)).mono ?_
                rintro ee wb ⟨rfl, hbc⟩
                have hzb := bad_size hbc
                refine hK.out _ _ (fun _ => ?_) (fun hS2 => ?_)
                · exact ⟨kbad hbc (by omega) (hS1.1), kbad hbc (by omega) (hS1.2.1), kbad hbc (by omega) (hS1.2.2.1), kbad hbc (by omega) (hS1.2.2.2.1), kbad hbc (by omega) (hS1.2.2.2.2.1), kbad hbc (by omega) (hS1.2.2.2.2.2.1), kbad hbc (by omega) (hS1.2.2.2.2.2.2.1), kbad hbc (by omega) (hS1.2.2.2.2.2.2.2.1), kbad hbc (by omega) (hS1.2.2.2.2.2.2.2.2.1), kbad hbc (by omega) (hS1.2.2.2.2.2.2.2.2.2.1), kbad hbc (by omega) (hS1.2.2.2.2.2.2.2.2.2.2.1), kbad hbc (by omega) (hS1.2.2.2.2.2.2.2.2.2.2.2.1), kbad hbc (by omega) (hS1.2.2.2.2.2.2.2.2.2.2.2.2.1), kbad hbc (by omega) (hS1.2.2.2.2.2.2.2.2.2.2.2.2.2.1), kbad hbc (by omega) (hS1.2.2.2.2.2.2.2.2.2.2.2.2.2.2.1), kbad hbc (by omega) (hS1.2.2.2.2.2.2.2.2.2.2.2.2.2.2.2.1), kbad hbc (by omega) (hS1.2.2.2.2.2.2.2.2.2.2.2.2.2.2.2.2)⟩
                clear hK K
                have hS2 := hS2 (by decide)
                try simp only [Act.put, List.setIfInBounds_toArray, List.set_cons_zero, List.set_cons_succ]
                refine wpAnyX_one (i := 21) (o := _) rfl (by kernel_rfl) (fun K hK => ?_)
                have Ys := (XS.out.badly hbb (by omega)).badly hbc (by omega)
                have ys0 := Ys.c 0 rfl
                have ys1 := Ys.c 1 rfl
                have ys2 := Ys.c 2 rfl
                have ys3 := Ys.c 3 rfl
                have ys4 := Ys.c 4 rfl
                have ysf := Ys.f
                go_simp
                refine hK.out _ _ (fun h => absurd rfl h) (fun _ => ?_)
                clear hK K
                try simp only [Act.put, List.setIfInBounds_toArray, List.set_cons_zero, List.set_cons_succ]
                refine wpAnyX_done (by kernel_rfl) ?_ _
                go_wp2_with (fail)
                go_roundg m3
                case measure => omega
                case rel =>
                  refine ⟨k + 1, (addS false s (mulS false x y).1).1, z' || (mulS false x y).2 || (addS false s (mulS false x y).1).2, by omega, by go_num, ?_, ?_, ?_, ?_⟩
                  · show _ ∧ _
                    obtain ⟨t1, t2⟩ := HT.out
                    have hb1 : (blT xs ys i j (k + 1)) = ((addS false s (mulS false x y).1).1, (blT xs ys i j k).2 || (mulS false x y).2 || (addS false s (mulS false x y).1).2) := by
                      show (_, _) = _
                      rw [HX.out, HY.out, t1]
                    rw [hb1]
                    exact ⟨rfl, by rw [← t2]; simp [Bool.or_assoc]⟩
                  · show _ = _; exact addS_ok HKs.out (mulS_ok HKx.out HKy.out)
                  · show Bx _ _ _ _; exact Ys.set5 _
                  · show Below _ _ _; exact set5_below (x := (addS false s (mulS false x y).1).1) (bad_step (bad_step HBk.out hgw hbb (by omega)) hgw hbc (by omega)) (Nat.le_refl _)
          case rest =>
            obtain ⟨wx, rfl⟩ : ∃ wx, wx = wc := ⟨_, rfl⟩
            obtain ⟨HKs, XS, HBx⟩ := hcut
            obtain ⟨s, hs⟩ : ∃ s, s = (blT xs ys i j 3).1 := ⟨_, rfl⟩
            obtain ⟨z', hz'⟩ : ∃ z', z' = (z || (blT xs ys i j 3).2) := ⟨_, rfl⟩
            have HT := hid (And.intro hs hz')
            rw [← hs] at HKs XS
            rw [← hz'] at HBx
            clear hs hz'
            have hBx := HBx.out.size
            rw [World.size_setCell] at hBx
            have iqj : i * 3 + j < 9 := by omega
            have hl := HS.out.1
            have HL := hid hl
            have hvl := World.ownsRow.lt HOw.out
            have HVL := hid hvl
            clear hl
            have nea : some (w.heap.size) ≠ v.ownBlock := fun e => by have := (hvl _ e.symm); omega
            have neb : some (w.heap.size + 1) ≠ v.ownBlock := fun e => by have := (hvl _ e.symm); omega
            have nez : some (w.heap.size + 1 + 1) ≠ v.ownBlock := fun e => by have := (hvl _ e.symm); omega
            have neo : some (w.heap.size + 1 + 1 + 1) ≠ v.ownBlock := fun e => by have := (hvl _ e.symm); omega
            have nef : some (gc) ≠ v.ownBlock := fun e => by have := (hvl _ e.symm); omega
            have Ya := hid (Xa.out.badly HBx.out (by omega))
            have Yb := hid (Xb.out.badly HBx.out (by omega))
            have Yz := hid (Xz.out.badly HBx.out (by omega))
            have Yo := hid (Xo.out.badly HBx.out (by omega))
            have Yf := hid (Xf.out.bad HBx.out)
            have HOw2 := hid (HOw.out.badly HBx.out (by omega))
            have HBW := hid (bad_step HBo.out hgc HBx.out (by omega))
            clear hvl HOw HBo HBx Xa la ca0 Xb lb cb0 Xz lz cz0 fz Xo lo co0 fo Xf lf cf0 ff
            have Xa := Ya
            have Xb := Yb
            have Xz := Yz
            have Xo := Yo
            have Xf := Yf
            clear Ya Yb Yz Yo Yf
            have ca0 := Xa.out.c 0 rfl
            have la := Xa.out.lt
            have cb0 := Xb.out.c 0 rfl
            have lb := Xb.out.lt
            have cz0 := Xz.out.c 0 rfl
            have lz := Xz.out.lt
            have fz := Xz.out.f
            have co0 := Xo.out.c 0 rfl
            have lo := Xo.out.lt
            have fo := Xo.out.f
            have cf0 := Xf.out.c 0 rfl
            have lf := Xf.out.lt
            have ff := Xf.out.f
            have s0 := XS.out.c 0 rfl
            have s1 := XS.out.c 1 rfl
            have s2 := XS.out.c 2 rfl
            have s3 := XS.out.c 3 rfl
            have s4 := XS.out.c 4 rfl
            go_wp2_with (at_builtin; refine wpList_append_lies _ rfl _ _ _ rfl (w.heap.size + 1 + 1 + 1 + 1) 99 i0 _ 5 40 Try.underlying28 hi0 hu0 hu1 hu2 rfl (by omega) v (i * 3 + j) (csL zs) rfl (World.ownsRow.alloc (by have := HOw2.out; unfold Own5 at this; rw [HL.out] at this; exact this) _) ⟨wx.heap.size, 0, none⟩ 1 1 s.cs rfl rfl (World.news_of_block (cs := s.cs.toArray) (t := 99) (fr := (0, 0)) (heap_alloc_new _ _)) (by simp [D5.cs, Value.oneCell']) (by omega) (append_ok (by omega)).1 (append_ok (by omega)).2 (by simp; omega) (wx.heap.size + 1) (by simp) ?_; intro gg cap wb hownb hgrowb hatb hltb; have Yo := (Bx.alloc Xo.out _).grown hgrowb neo; have yo0 := Yo.c 0 rfl; have yof := Yo.f 0)
            go_roundg m2
            case measure => omega
            case rel =>
              have hzb := hgrowb.size
              simp only [World.size_alloc] at hzb
              have Ya := (Bx.alloc Xa.out _).grown hgrowb nea
              have Yb := (Bx.alloc Xb.out _).grown hgrowb neb
              have Yz := (Bx.alloc Xz.out _).grown hgrowb nez
              have Yf := (Bx.alloc Xf.out _).grown hgrowb nef
              refine ⟨j + 1, .slice (some ⟨gg, 0, none⟩) (i * 3 + j + 1) cap, z', zs ++ [s], by omega, by go_num, Ya.far (by omega), Yb.far (by omega), Yz.far (by omega), Yo.set rfl, Yf.far (by omega), ?_, ?_, by (try simp only [World.size_setCell]); omega, ?_⟩
              · show Own5 _ _ _ _ _
                exact (Own5.snoc HL.out hownb).far (by show w.heap.size + 1 + 1 + 1 < _; omega) _
              · refine HS.out.next (r := (s, z')) (fun h => ?_) (fun h => ?_)
                · obtain ⟨h1, h2⟩ := HT.out
                  rw [h] at h2
                  rw [HF.out, HG.out, (bl_at hltj).1, (bl_at hltj).2, h1, h2, Bool.false_or]
                · obtain ⟨h1, h2⟩ := HT.out
                  rw [h2, h]; rfl
              · show Below _ _ _
                refine Below.setCell ?_ (by show w.heap.size ≤ w.heap.size + 1 + 1 + 1; omega) _
                refine Below.grown (HBW.out.alloc (by omega) _) hgrowb (by simp only [World.size_alloc]; omega) (fun q e => by have := (HVL.out _ e).1; omega)


end Go.Proofs.Ytofclfgaekjonaa
namespace Go.Proofs.Ytofclfgaekjonaa
open Go.RowKit RM
set_option linter.unusedVariables false
set_option linter.unusedSimpArgs false
attribute [local irreducible] World.setCell

/-- the unit matrix, as far as its first j rows are written -/
def unitP (N j q : Nat) : D5 := if anyB j (fun i => decide (q = i * N + i)) then one5 else z5
theorem unitP_0 (N n : Nat) : tab n (unitP N 0) = List.replicate n z5 := by
  rw [tab_repl]; exact tab_congr (fun q _ => by unfold unitP; rw [anyB_0]; rfl)
theorem unitP_set {N n j q : Nat} (hq : q = j * N + j) (hn : q < n) : (tab n (unitP N j)).set q one5 = tab n (unitP N (j + 1)) := by
  rw [tab_set hn]
  refine tab_congr (fun p _ => ?_)
  unfold unitP
  rw [anyB_succ]
  by_cases e : p = q
  · subst e; rw [if_pos rfl, if_pos (by simp [hq])]
  · rw [if_neg e, show decide (p = j * N + j) = false from decide_eq_false (by omega), Bool.or_false]
set_option maxRecDepth 100000 in
set_option maxHeartbeats 2000000 in
theorem tn0 (w : World) : Calls Try.prog 161 #[rg 1 0 0 0, .int .i64 0] w fun ee w' => ee = .returned (rg 1 0 0 0) ∧ Below w.heap.size w w' := by
  go_enter Try.func161, Try.ntmps161
  go_wp2_with (fail)
  go_rounds 1
  refine bodyPost_ret (v := rg 1 0 0 0) (by first | (simp [results, Try.results161, go_sem, *]; done) | (simp (disch := (first | omega | (simp; done) | (simp; omega))) [results, Try.results161, go_sem, *]; done) | (simp only [results, Try.results161]; go_simp; done)) rfl ⟨rfl, ?_⟩
  (repeat' (first | (with_reducible exact Below.refl _ _) | (with_reducible assumption) | (with_reducible refine Below.alloc ?_ ?_ _) | (with_reducible refine Below.drew ?_) | (with_reducible refine below_drewN ?_ _) | (with_reducible refine Below.setCell ?_ ?_ _) | (with_reducible refine chain ?_ (by assumption) ?_) | omega | (simp; done) | (simp; omega)))

set_option maxRecDepth 100000 in
set_option maxHeartbeats 2000000 in
theorem pw0 (w : World) : Calls Try.prog 129 #[.int .i64 0] w fun ee w' => ee = .returned (dy 1 0 0 0 0) ∧ Below w.heap.size w w' := by
  go_enter Try.func129, Try.ntmps129
  go_wp2_with (fail)
  refine (tn0 _).mono ?_
  rintro ee w1 ⟨rfl, hb1⟩
  obtain ⟨hc1, hf1, _⟩ := bcell hb1; have hz1 := hb1.size; (try simp at hz1); (try have hx10 : w.heap.size < w1.heap.size := (by omega)); (try have hx11 : w.heap.size + 1 < w1.heap.size := (by omega)); (try have hx12 : w.heap.size + 1 + 1 < w1.heap.size := (by omega)); (try have hx13 : w.heap.size + 1 + 1 + 1 < w1.heap.size := (by omega))
  go_wp2_with (fail)
  refine bodyPost_ret (v := dy 1 0 0 0 0) (by first | (simp [results, Try.results129, go_sem, *]; done) | (simp (disch := (first | omega | (simp; done) | (simp; omega))) [results, Try.results129, go_sem, *]; done) | (simp only [results, Try.results129]; go_simp; done)) rfl ⟨rfl, ?_⟩
  (repeat' (first | (with_reducible exact Below.refl _ _) | (with_reducible assumption) | (with_reducible refine Below.alloc ?_ ?_ _) | (with_reducible refine Below.drew ?_) | (with_reducible refine below_drewN ?_ _) | (with_reducible refine Below.setCell ?_ ?_ _) | (with_reducible refine chain ?_ (by assumption) ?_) | omega | (simp; done) | (simp; omega)))

end Go.Proofs.Ytofclfgaekjonaa
namespace Go.Proofs.Ytofclfgaekjonaa
open Go.RowKit RM
set_option linter.unusedVariables false
set_option linter.unusedSimpArgs false
attribute [local irreducible] World.setCell

/-- equality of numbers, of lists of them -/
def D5.beq (x y : D5) : Bool := x.a == y.a && x.b == y.b && x.c == y.c && x.d == y.d && x.e == y.e
theorem beq_iff5 {x y : D5} : x.beq y = true ↔ x = y := by
  obtain ⟨a, b, c, d, e⟩ := x
  obtain ⟨p, q, r, s, f⟩ := y
  simp [D5.beq, and_assoc]
def eqL : List D5 → List D5 → Bool
  | [], [] => true
  | x :: xs, y :: ys => x.beq y && eqL xs ys
  | _, _ => false
theorem eqL_iff {xs ys : List D5} : eqL xs ys = true ↔ xs = ys := by
  induction xs generalizing ys with
  | nil => cases ys <;> simp [eqL]
  | cons x xs ih => cases ys with
    | nil => simp [eqL]
    | cons y ys => simp [eqL, ih, beq_iff5]
theorem eqL_at {xs ys : List D5} {j : Nat} {x y : D5} (hx : xs[j]? = some x) (hy : ys[j]? = some y) (hne : x ≠ y) : eqL xs ys = false := by
  cases h : eqL xs ys
  · rfl
  · rw [eqL_iff.1 h, hy] at hx
    exact absurd (Option.some.inj hx).symm hne
theorem take_eq {xs ys : List D5} {j : Nat} {x : D5} (hx : xs[j]? = some x) (hy : ys[j]? = some x) (h : xs.take j = ys.take j) : xs.take (j + 1) = ys.take (j + 1) := by
  rw [List.take_add_one, List.take_add_one, hx, hy, h]
theorem eqL_end {xs ys : List D5} {j : Nat} (h1 : xs.length = j) (h2 : ys.length = j) (h : xs.take j = ys.take j) : eqL xs ys = true := by
  rw [List.take_of_length_le (by omega), List.take_of_length_le (by omega)] at h
  exact eqL_iff.2 h
set_option maxRecDepth 100000 in
set_option maxHeartbeats 4000000 in
theorem sleq {A B : Option Addr} {n c d : Nat} {xs ys : List D5} {w : World} (hA : Rd w A xs) (hB : Rd w B ys) (hn : xs.length = n) (hm : ys.length = n) (hb : n ≤ 1048576) :
    Calls Try.prog 76 #[.slice A n c, .slice B n d] w fun ee w' => ee = .returned (.bool (eqL xs ys)) ∧ Below w.heap.size w w' := by
  have HA := hid hA
  have HB := hid hB
  have HN := hid hn
  have HM := hid hm
  clear hA hB hn hm
  go_enter Try.func76, Try.ntmps76
  go_wp2_with (fail)
  go_loopg [13] n (fun k s1 wr => ∃ j : Nat, j + k = n ∧ s1 = .int .i64 (j : Int) ∧ Hid (xs.take j = ys.take j) ∧ Below w.heap.size w wr)
  case atStart => exact ⟨0, by omega, rfl, rfl, by (repeat' (first | (with_reducible exact Below.refl _ _) | (with_reducible assumption) | (with_reducible refine Below.alloc ?_ ?_ _) | (with_reducible refine Below.drew ?_) | (with_reducible refine below_drewN ?_ _) | (with_reducible refine Below.setCell ?_ ?_ _) | (with_reducible refine chain ?_ (by assumption) ?_) | omega | (simp; done) | (simp; omega)))⟩
  case round =>
    obtain ⟨j, hj, rfl, HJ, hB⟩ := hrel
    cases gk with
    | zero =>
      obtain rfl : j = n := by omega
      go_wp2_with (fail)
      go_ret
      exact ⟨by rw [eqL_end HN.out HM.out HJ.out]; rfl, hB⟩
    | succ m =>
      have hlt : j < n := by omega
      obtain ⟨x, hx⟩ : ∃ x, xs[j]? = some x := ⟨_, List.getElem?_eq_getElem (by rw [HN.out]; exact hlt)⟩
      obtain ⟨y, hy⟩ : ∃ y, ys[j]? = some y := ⟨_, List.getElem?_eq_getElem (by rw [HM.out]; exact hlt)⟩
      obtain ⟨g, o, rfl, hC⟩ := HA.out j x hx
      obtain ⟨g', o', rfl, hC'⟩ := HB.out j y hy
      have HX := hid hx
      have HY := hid hy
      clear hx hy
      obtain ⟨q0, q1, q2, q3, q4⟩ := hC.at_ (hB.block g hC.lt)
      obtain ⟨p0, p1, p2, p3, p4⟩ := hC'.at_ (hB.block g' hC'.lt)
      clear hC hC'
      by_cases hxy : x = y
      · subst hxy
        have hop := neq_f x
        go_wp2_with (fail)
        go_quiet (fail)
        go_wp2_with (fail)
        go_roundg m
        case measure => omega
        case rel => exact ⟨j + 1, by omega, by go_num, take_eq HX.out HY.out HJ.out, by (repeat' (first | (with_reducible exact Below.refl _ _) | (with_reducible assumption) | (with_reducible refine Below.alloc ?_ ?_ _) | (with_reducible refine Below.drew ?_) | (with_reducible refine below_drewN ?_ _) | (with_reducible refine Below.setCell ?_ ?_ _) | (with_reducible refine chain ?_ (by assumption) ?_) | omega | (simp; done) | (simp; omega)))⟩
      · have HNE := hid hxy
        have hop := neq_t hxy
        clear hxy
        go_wp2_with (fail)
        go_quiet (fail)
        go_wp2_with (fail)
        go_ret
        refine ⟨by rw [eqL_at HX.out HY.out HNE.out]; rfl, ?_⟩
        (repeat' (first | (with_reducible exact Below.refl _ _) | (with_reducible assumption) | (with_reducible refine Below.alloc ?_ ?_ _) | (with_reducible refine Below.drew ?_) | (with_reducible refine below_drewN ?_ _) | (with_reducible refine Below.setCell ?_ ?_ _) | (with_reducible refine chain ?_ (by assumption) ?_) | omega | (simp; done) | (simp; omega)))

end Go.Proofs.Ytofclfgaekjonaa
