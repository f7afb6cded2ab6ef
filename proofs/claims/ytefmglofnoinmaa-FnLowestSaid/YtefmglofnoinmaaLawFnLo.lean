/- The draw of a numerator and an exponent; the lowest form of any; comparisons of absolute values both ways. The law on lowest forms and on comparisons of drawn numbers. -/
import Derived.Test.YtefmglofnoinmaaDyFn
import Derived.Test.YtefmglofnoinmaaSubI
import Derived.Test.YtefmglofnoinmaaMulTwo
import Derived.Test.YtefmglofnoinmaaLowI
import Derived.Deep.LoopGhost
import Derived.Test.YtefmglofnoinmaaHeldB
import Derived.Deep.RegionHeld3
import Derived.Deep.MidRow
import Derived.Deep.DeepCutAuto
import Derived.Deep.RegionWith
import Derived.Test.YtefmglofnoinmaaRootA
namespace Go.Proofs.Ytefmglofnoinmaa
open Go.RowKit RM
set_option linter.unusedVariables false
set_option linter.unusedSimpArgs false
attribute [local irreducible] World.setCell

set_option maxRecDepth 100000 in
set_option maxHeartbeats 8000000 in
theorem dDof {A : Option Addr} {len cap : Nat} {w : World} (h : Bs w A len) :
    Calls Try.prog 33 #[.slice A len cap] w fun e w' => ∃ a b c d x : Int, e = .returned (.tuple #[rg a b c d, .int .i64 x]) ∧ Below w.heap.size w w' := by
  have HC := hid h
  have HL := hid h.le
  clear h
  go_enter Try.func33, Try.ntmps33
  go_wp2_with (first | (go_at_call 70; ((with_reducible refine (anyRing_any (Cu.startg (g := w.heap.size + 1) cap _ (HC.out.alloc _) (by simp)) HL.out (by omega)).mono ?_); rintro ee w1 ⟨a, b, c, d, rfl, hC1, hK1⟩; have HC1 := hid hC1; have hs1 := hK1.size; (try simp at hs1))) | (go_at_call 77; ((with_reducible refine (pick_any _ (by decide) (by decide) HC1.out HL.out (by omega)).mono ?_); rintro ee w2 ⟨v2, rfl, a2, b2, hC2, hK2⟩; have HC2 := hid hC2; have hs2 := hK2.size; (try simp at hs2))) | (go_at_call 76; ((with_reducible refine (among_any w2.heap.size 0 5 5 (by decide) (by decide) (HC2.out.alloc _) HL.out (by omega) ?hb ?hz).mono ?_); (case hb => have := HC2.out.lt; omega); (case hz => intro i hi; rcases (show i = 0 ∨ i = 1 ∨ i = 2 ∨ i = 3 ∨ i = 4 by omega) with rfl | rfl | rfl | rfl | rfl <;> first | exact ⟨_, (World.cell?_alloc_at _ _ _ _ rfl).trans rfl⟩ | omega); (rintro ee w3 ⟨v3, rfl, _, hC3, hK3⟩; have hs3 := hK3.size; (try simp at hs3); have hZ := ((((C4.new w 25).mono ((Below.refl _ _).alloc (Nat.le_refl _) _)).kp hK1 (by omega)).kp hK2 (by omega)).al.kp hK3 (by omega); obtain ⟨z0, z1, z2, z3, z4, z5, z6, z7⟩ := hZ))))
  refine bodyPost_ret (v := .tuple #[rg a b c d, .int .i64 v3]) (by first | (simp [results, Try.results33, go_sem, *]; done) | (simp (disch := (first | omega | (simp; done) | (simp; omega))) [results, Try.results33, go_sem, *]; done) | (simp only [results, Try.results33]; go_simp; done)) rfl ⟨_, _, _, _, _, rfl, ?_⟩
  repeat' (first | (with_reducible assumption) | (with_reducible exact Below.refl _ _) | (with_reducible refine Below.alloc ?_ ?_ _) | (with_reducible refine Below.drew ?_) | (with_reducible refine Below.setCell ?_ ?_ _) | (with_reducible refine Kp.belowA (by with_reducible assumption) ?_ ?_) | (with_reducible refine chain ?_ (by with_reducible assumption) ?_) | omega | (simp; done) | (simp; omega))

theorem dof_all (a b c d x : Int) : ∃ (L M N O E : Int) (ok : Bool), (∀ w : World, Calls Try.prog 34 #[rg a b c d, .int .i64 x] w fun ee w' => ee = .returned (dt L M N O E ok) ∧ Below w.heap.size w w') ∧ (∀ w : World, Calls Try.prog 35 #[rg a b c d, .int .i64 x] w fun ee w' => ee = .returned (dt L M N O E ok) ∧ Below w.heap.size w w') ∧ (ok = true → ∃ e g : Nat, x = (e : Int) ∧ E = (g : Int) ∧ vr a b c d = true ∧ e ≤ 60 ∧ low e a b c d = ⟨L, M, N, O, g⟩) := by
  cases h : vr a b c d
  · exact ⟨0, 0, 0, 0, 0, false, fun w => dof_f _ _ _ _ _ w h, fun w => dos_f _ _ _ _ _ w h, fun h => by cases h⟩
  · by_cases h0 : x < 0
    · exact ⟨0, 0, 0, 0, 0, false, fun w => dof_n _ _ _ _ _ w h h0, fun w => dos_n _ _ _ _ _ w h h0, fun h => by cases h⟩
    · by_cases h1 : 60 < x
      · exact ⟨0, 0, 0, 0, 0, false, fun w => dof_m _ _ _ _ _ w h h1, fun w => dos_m _ _ _ _ _ w h h1, fun h => by cases h⟩
      · obtain ⟨n, rfl⟩ : ∃ n : Nat, x = n := ⟨x.toNat, by omega⟩
        rcases hq : low n a b c d with ⟨A, B, C, D, E⟩
        exact ⟨A, B, C, D, E, true, fun w => dof_t _ _ _ _ _ _ _ _ _ _ w h (by omega) hq, fun w => dos_t _ _ _ _ _ _ _ _ _ _ w h (by omega) hq, fun _ => ⟨n, E, rfl, rfl, rfl, by omega, hq⟩⟩

theorem rais_neg (n : Nat) : ∀ {a b c d A B C D : Int}, rais n a b c d = some ⟨A, B, C, D⟩ → rais n (-a) (-b) (-c) (-d) = some ⟨-A, -B, -C, -D⟩ := by
  induction n with
  | zero => intro a b c d A B C D h; simp only [rais, Option.some.injEq, R4.mk.injEq] at h ⊢; omega
  | succ n ih =>
    intro a b c d A B C D h
    rw [rais] at h ⊢
    have e0 : -b - -d = -(b - d) := by omega
    have e1 : -a + -c = -(a + c) := by omega
    have e2 : -b + -d = -(b + d) := by omega
    have e3 : -c - -a = -(c - a) := by omega
    rw [e0, e1, e2, e3, vr_neg2]
    split at h
    · rename_i hv; rw [if_pos hv]; exact ih h
    · cases h
theorem ev2_neg (a b c d : Int) : ev2 (-a) (-b) (-c) (-d) = ev2 a b c d := by
  rw [Bool.eq_iff_iff]; simp only [ev2, Bool.and_eq_true, tm2'']; omega
theorem low_neg (e : Nat) : ∀ {a b c d A B C D : Int} {E : Nat}, low e a b c d = ⟨A, B, C, D, E⟩ → low e (-a) (-b) (-c) (-d) = ⟨-A, -B, -C, -D, E⟩ := by
  induction e with
  | zero => intro a b c d A B C D E h; simp only [low, Dy.mk.injEq] at h ⊢; omega
  | succ e ih =>
    intro a b c d A B C D E h
    rw [low] at h ⊢
    rw [ev2_neg]
    have e0 : (-b - -d).tdiv 2 = -((b - d).tdiv 2) := by rw [show -b - -d = -(b - d) by omega, Int.neg_tdiv]
    have e1 : (-a + -c).tdiv 2 = -((a + c).tdiv 2) := by rw [show -a + -c = -(a + c) by omega, Int.neg_tdiv]
    have e2 : (-b + -d).tdiv 2 = -((b + d).tdiv 2) := by rw [show -b + -d = -(b + d) by omega, Int.neg_tdiv]
    have e3 : (-c - -a).tdiv 2 = -((c - a).tdiv 2) := by rw [show -c - -a = -(c - a) by omega, Int.neg_tdiv]
    split at h
    · rename_i hv; rw [if_pos hv, e0, e1, e2, e3]; exact ih h
    · rename_i hv; rw [if_neg hv]; simp only [Dy.mk.injEq] at h ⊢; omega
theorem ssq_neg (u : Int) : ssq (-u) = -ssq u := by
  have e : -u * -u = u * u := Int.neg_mul_neg u u
  have z : u = 0 → u * u = 0 := fun h => by rw [h]; rfl
  unfold ssq; split <;> split <;> omega
theorem sgn_neg (x : Int) : sgn (-x) = -sgn x := by
  unfold sgn; split <;> split <;> (first | omega | (split <;> omega) | (split <;> split <;> omega))
/-- NormSquare in the program at any number -/
theorem ns_any2 (a b c d e : Int) : (∃ (L M N O : Int) (E : Nat), vd L M N O E = true ∧ (∀ w : World, Calls Try.prog 56 #[dy a b c d e] w fun ee w' => ee = .returned (dt L M N O E true) ∧ Below w.heap.size w w') ∧ (∀ w : World, Calls Try.prog 57 #[dy a b c d e] w fun ee w' => ee = .returned (dt L M N O E true) ∧ Below w.heap.size w w')) ∨ ((∀ w : World, Calls Try.prog 56 #[dy a b c d e] w fun ee w' => ee = .returned (dt 0 0 0 0 0 false) ∧ Below w.heap.size w w') ∧ (∀ w : World, Calls Try.prog 57 #[dy a b c d e] w fun ee w' => ee = .returned (dt 0 0 0 0 0 false) ∧ Below w.heap.size w w')) := by
  rcases vi_cases (a := a) (b := b) (c := c) (d := d) (e := e) with h | ⟨n, rfl, h⟩
  · exact Or.inr ⟨fun w => ns_s_f _ _ _ _ _ w h, fun w => ns_i_f _ _ _ _ _ w h⟩
  · exact ns_two h
/-- CompareAbs both ways -/
theorem cmp_all (a b c d x p q r s y : Int) : ∃ (n : Int) (ok : Bool), -1 ≤ n ∧ n ≤ 1 ∧
    (∀ w : World, Calls Try.prog 39 #[dy a b c d x, dy p q r s y] w fun ee w' => ee = .returned (.tuple #[.int .i64 n, .bool ok]) ∧ Below w.heap.size w w') ∧
    (∀ w : World, Calls Try.prog 39 #[dy p q r s y, dy a b c d x] w fun ee w' => ee = .returned (.tuple #[.int .i64 (-n), .bool ok]) ∧ Below w.heap.size w w') := by
  rcases ns_any2 a b c d x with ⟨L, M, N, O, E, vl, hl, hli⟩ | ⟨hl, hli⟩
  · rcases ns_any2 p q r s y with ⟨L', M', N', O', E', vk, hk, hki⟩ | ⟨hk, hki⟩
    · obtain ⟨P, Q, R, S, F, zz, hm, g | g⟩ := add_two vl (vd_neg vk)
      · obtain ⟨rfl, ⟨A1, B1, C1, D1, A2, B2, C2, D2, r1, r2, hv, hlow⟩, hi⟩ := g
        have hvr := (low_vr _ hv hlow).1
        have hp : vp P Q = true := by rw [vp_iff]; have := vr_iff.1 hvr; exact ⟨this.1, this.2.1⟩
        have hp' : vp (-P) (-Q) = true := by rw [vp_iff] at *; omega
        have hsg : -1 ≤ sgn (ssq P + 2 * ssq Q) ∧ sgn (ssq P + 2 * ssq Q) ≤ 1 := by unfold sgn; split <;> (first | omega | (split <;> omega))
        refine ⟨_, true, hsg.1, hsg.2, fun w => cmpD_i _ _ _ _ _ _ _ _ _ _ _ _ _ _ _ _ _ _ _ _ _ _ _ _ _ w hli hki (fun w => subD_i _ _ _ _ _ _ _ _ _ _ _ _ _ _ _ _ w (vd_iff.1 vk).1 hi) hp, ?_⟩
        obtain ⟨P', Q', R', S', F', zz', _, g | g⟩ := add_two vk (vd_neg vl)
        · obtain ⟨rfl, ⟨A3, B3, C3, D3, A4, B4, C4, D4, r3, r4, hv', hlow'⟩, hi'⟩ := g
          have n1 := rais_neg _ r1
          have n2 := rais_neg _ r2
          simp only [Int.neg_neg] at n2
          rw [n1] at r4
          rw [n2] at r3
          simp only [Option.some.injEq, R4.mk.injEq] at r3 r4
          obtain ⟨rfl, rfl, rfl, rfl⟩ := r3
          obtain ⟨rfl, rfl, rfl, rfl⟩ := r4
          have hn := low_neg _ hlow
          rw [show E' + (E - E') = E + (E' - E) by omega, show -A2 + -A1 = -(A1 + A2) by omega, show -B2 + -B1 = -(B1 + B2) by omega, show -C2 + -C1 = -(C1 + C2) by omega, show -D2 + -D1 = -(D1 + D2) by omega, hn] at hlow'
          simp only [Dy.mk.injEq] at hlow'
          obtain ⟨rfl, rfl, rfl, rfl, rfl⟩ := hlow'
          have := fun w => cmpD_i _ _ _ _ _ _ _ _ _ _ _ _ _ _ _ _ _ _ _ _ _ _ _ _ _ w hki hli (fun w => subD_i _ _ _ _ _ _ _ _ _ _ _ _ _ _ _ _ w (vd_iff.1 vl).1 hi') hp'
          rw [ssq_neg, ssq_neg, show -ssq P + 2 * -ssq Q = -(ssq P + 2 * ssq Q) by omega, sgn_neg] at this
          exact this
        · obtain ⟨_, hno, _⟩ := g
          have n1 := rais_neg _ r1
          have n2 := rais_neg _ r2
          simp only [Int.neg_neg] at n2
          have := hno _ _ _ _ _ _ _ _ n2 n1
          rw [show -A2 + -A1 = -(A1 + A2) by omega, show -B2 + -B1 = -(B1 + B2) by omega, show -C2 + -C1 = -(C1 + C2) by omega, show -D2 + -D1 = -(D1 + D2) by omega, vr_neg2, hv] at this
          cases this
      · obtain ⟨rfl, hno, hi⟩ := g
        refine ⟨0, false, by decide, by decide, fun w => cmpD_i_3 _ _ _ _ _ _ _ _ _ _ _ _ _ _ _ _ _ _ _ _ w hli hki (fun w => subD_i _ _ _ _ _ _ _ _ _ _ _ _ _ _ _ _ w (vd_iff.1 vk).1 hi), ?_⟩
        obtain ⟨P', Q', R', S', F', zz', _, g | g⟩ := add_two vk (vd_neg vl)
        · obtain ⟨rfl, ⟨A3, B3, C3, D3, A4, B4, C4, D4, r3, r4, hv', hlow'⟩, hi'⟩ := g
          have n1 := rais_neg _ r3
          have n2 := rais_neg _ r4
          simp only [Int.neg_neg] at n2
          have := hno _ _ _ _ _ _ _ _ n2 n1
          rw [show -A4 + -A3 = -(A3 + A4) by omega, show -B4 + -B3 = -(B3 + B4) by omega, show -C4 + -C3 = -(C3 + C4) by omega, show -D4 + -D3 = -(D3 + D4) by omega, vr_neg2, hv'] at this
          cases this
        · exact fun w => cmpD_i_3 _ _ _ _ _ _ _ _ _ _ _ _ _ _ _ _ _ _ _ _ w hki hli (fun w => subD_i _ _ _ _ _ _ _ _ _ _ _ _ _ _ _ _ w (vd_iff.1 vl).1 g.2.2)
    · exact ⟨0, false, by decide, by decide, fun w => cmpD_i_2 _ _ _ _ _ _ _ _ _ _ _ _ _ _ _ w hli hki, fun w => cmpD_i_1 _ _ _ _ _ _ _ _ _ _ w hki⟩
  · rcases ns_any2 p q r s y with ⟨L', M', N', O', E', vk, hk, hki⟩ | ⟨hk, hki⟩
    · exact ⟨0, false, by decide, by decide, fun w => cmpD_i_1 _ _ _ _ _ _ _ _ _ _ w hli, fun w => cmpD_i_2 _ _ _ _ _ _ _ _ _ _ _ _ _ _ _ w hki hli⟩
    · exact ⟨0, false, by decide, by decide, fun w => cmpD_i_1 _ _ _ _ _ _ _ _ _ _ w hli, fun w => cmpD_i_1 _ _ _ _ _ _ _ _ _ _ w hki⟩
end Go.Proofs.Ytefmglofnoinmaa
namespace Go.Proofs.Ytefmglofnoinmaa
open Go.RowKit RM
set_option linter.unusedVariables false
set_option linter.unusedSimpArgs false
attribute [local irreducible] World.setCell

theorem C4.put4 {W : World} {k : Nat} {a b c d : Int} (h : C4 W k a b c d) (a' b' c' d' : Int) : C4 ((((W.setCell ⟨k, 0, none⟩ (.int .i64 a')).setCell ⟨k, 1, none⟩ (.int .i64 b')).setCell ⟨k, 2, none⟩ (.int .i64 c')).setCell ⟨k, 3, none⟩ (.int .i64 d')) k a' b' c' d' := by
  obtain ⟨h0, h1, h2, h3, h4, h5, h6, h7⟩ := h
  exact ⟨by go_simp, by go_simp, by go_simp, by go_simp, by go_simp, by go_simp, by go_simp, by go_simp⟩
theorem C4.far4 {W : World} {k g : Nat} {a b c d : Int} {v0 v1 v2 v3 : Value} (h : C4 W k a b c d) (hne : g ≠ k) : C4 ((((W.setCell ⟨g, 0, none⟩ v0).setCell ⟨g, 1, none⟩ v1).setCell ⟨g, 2, none⟩ v2).setCell ⟨g, 3, none⟩ v3) k a b c d :=
  ⟨ks4 hne h.c0, ks4 hne h.c1, ks4 hne h.c2, ks4 hne h.c3, by simp [h.f0], by simp [h.f1], by simp [h.f2], by simp [h.f3]⟩
theorem C5.far4 {W : World} {k g : Nat} {a b c d e : Int} {v0 v1 v2 v3 : Value} (h : C5 W k a b c d e) (hne : g ≠ k) : C5 ((((W.setCell ⟨g, 0, none⟩ v0).setCell ⟨g, 1, none⟩ v1).setCell ⟨g, 2, none⟩ v2).setCell ⟨g, 3, none⟩ v3) k a b c d e :=
  ⟨ks4 hne h.c0, ks4 hne h.c1, ks4 hne h.c2, ks4 hne h.c3, ks4 hne h.c4, by simp [h.f0], by simp [h.f1], by simp [h.f2], by simp [h.f3], by simp [h.f4]⟩
theorem Bs.belowB {w W' : World} {A : Option Addr} {len : Nat} (h : Bs w A len) (hb : Below w.heap.size w W') : Bs W' A len := h.below hb
theorem ups_up (n : Nat) (x : R4) : ups (n + 1) x = up (ups n x) := ups_add n 1 x

set_option maxRecDepth 100000 in
set_option maxHeartbeats 16000000 in
theorem fnLowest_walk {A B : Option Addr} {len cap len2 cap2 : Nat} {w : World} (hA : Bs w A len) (hB : Bs w B len2) :
    Calls Try.prog 5 #[.slice A len cap, .slice B len2 cap2] w fun ee w' => ee = .returned (.bool true) ∧ Below w.heap.size w w' := by
  have HA := hid hA
  have HB := hid hB
  have HLA := hid hA.le
  have HLB := hid hB.le
  clear hA hB
  go_enter Try.func5, Try.ntmps5
  go_upto_region 8 with (first
    | (go_at_call 17; ((with_reducible refine (big_any _ HLA.out HLB.out).mono ?_); rintro ee w1 ⟨v0, rfl, hb1⟩; have hs1 := hb1.size; (try simp at hs1)))
    | (go_at_call 33; ((with_reducible refine (dDof (HA.out.below hb1)).mono ?_); rintro ee w2 ⟨a, b, c, d, x, rfl, hb2⟩; have hs2 := hb2.size; (try simp at hs2); obtain ⟨La, Lb, Lc, Ld, Le, k1, id1, id2, pd⟩ := dof_all a b c d x; have ID1 := hid id1; clear id1; have ID2 := hid id2; clear id2; have PD := hid pd; clear pd))
    | (go_at_call 34; ((with_reducible refine (ID1.out _).mono ?_); rintro ee w3 ⟨rfl, hb3⟩; have hs3 := hb3.size; (try simp at hs3); have u_3 := (C4.ofg (W := w2) (g := w2.heap.size) (a) (b) (c) (d) 25 (by simp)).mono hb3; have hl_u_3 := u_3.lt; obtain ⟨cu0, cu1, cu2, cu3, fu0, fu1, fu2, fu3⟩ := id u_3))
    | (go_at_call 35; ((with_reducible refine (ID2.out _).mono ?_); rintro ee w4 ⟨rfl, hb4⟩; have hs4 := hb4.size; (try simp at hs4); have u_4 := ((u_3).al).mono hb4; have xd_4 := (C5.ofg (W := w3) (g := w3.heap.size) (La) (Lb) (Lc) (Ld) (Le) 39 (by simp)).mono hb4; have hl_xd_4 := xd_4.lt; obtain ⟨cxd0, cxd1, cxd2, cxd3, cxd4, fxd0, fxd1, fxd2, fxd3, fxd4⟩ := id xd_4; have hl_u_4 := u_4.lt; obtain ⟨cu0, cu1, cu2, cu3, fu0, fu1, fu2, fu3⟩ := id u_4)))
  · go_ret
    refine ⟨rfl, ?_⟩
    repeat' (first | (with_reducible assumption) | (with_reducible exact Below.refl _ _) | (with_reducible refine Below.alloc ?_ ?_ _) | (with_reducible refine Below.drew ?_) | (with_reducible refine Below.setCell ?_ ?_ _) | (with_reducible refine Kp.belowA (by with_reducible assumption) ?_ ?_) | (with_reducible refine chain ?_ (by with_reducible assumption) ?_) | omega | (simp; done) | (simp; omega))
  · cases k1
    · have hBc : Bs (w4.alloc (.cells #[.int .i64 (La), .int .i64 (Lb), .int .i64 (Lc), .int .i64 (Ld), .int .i64 (Le)] 39)) B len2 := ((((((HB.out.below hb1).below hb2).alloc _).below hb3).alloc _).below hb4).alloc _
      go_wp2_with (first
        | (go_at_call 38; ((with_reducible refine (dCmp hBc).mono ?_); rintro ee w6 ⟨a2, b2, c2, d2, x2, p2, q2, r2, s2, y2, rfl, hb6⟩; have hs6 := hb6.size; (try simp at hs6); obtain ⟨cn, ck, cn1, cn2, ic1, ic2⟩ := cmp_all a2 b2 c2 d2 x2 p2 q2 r2 s2 y2; have IC1 := hid ic1; clear ic1; have IC2 := hid ic2; clear ic2))
        | (go_at_call 39; ((with_reducible refine (IC1.out _).mono ?_); rintro ee w7 ⟨rfl, hb7⟩; have hs7 := hb7.size; (try simp at hs7); have X_7 := ((C5.ofg (W := w6) (g := w6.heap.size) (a2) (b2) (c2) (d2) (x2) 39 (by simp)).al).mono hb7; have Y_7 := (C5.ofg (W := (w6.alloc (.cells #[.int .i64 (a2), .int .i64 (b2), .int .i64 (c2), .int .i64 (d2), .int .i64 (x2)] 39))) (g := w6.heap.size + 1) (p2) (q2) (r2) (s2) (y2) 39 (by simp)).mono hb7; have hl_X_7 := X_7.lt; obtain ⟨cX0, cX1, cX2, cX3, cX4, fX0, fX1, fX2, fX3, fX4⟩ := id X_7; have hl_Y_7 := Y_7.lt; obtain ⟨cY0, cY1, cY2, cY3, cY4, fY0, fY1, fY2, fY3, fY4⟩ := id Y_7))
        | (go_at_call 39; ((with_reducible refine (IC2.out _).mono ?_); rintro ee w8 ⟨rfl, hb8⟩; have hs8 := hb8.size; (try simp at hs8); have X_8 := (X_7).mono hb8; have Y_8 := (Y_7).mono hb8)))
      go_ret
      refine ⟨by simp, ?_⟩
      repeat' (first | (with_reducible assumption) | (with_reducible exact Below.refl _ _) | (with_reducible refine Below.alloc ?_ ?_ _) | (with_reducible refine Below.drew ?_) | (with_reducible refine Below.setCell ?_ ?_ _) | (with_reducible refine Kp.belowA (by with_reducible assumption) ?_ ?_) | (with_reducible refine chain ?_ (by with_reducible assumption) ?_) | omega | (simp; done) | (simp; omega))
    · obtain ⟨e, g, rfl, rfl, hvr, he, hlow⟩ := PD.out rfl
      obtain ⟨hge, hup, hlw⟩ := low_lw hlow
      obtain ⟨hvl, _, _⟩ := low_vr e hvr hlow
      have HVD := hid (low_vd hvr he hlow)
      have HU := hid hup
      have HVL := hid hvl
      clear hlow hlw hup hvl hvr
      have hgi : (g : Int) ≤ 60 := by omega
      have hei : (e : Int) ≤ 60 := by omega
      go_wp2_with (fail)
      go_loopg [12] (e - g) (fun k s12 wr => ∃ (A1 B1 C1 D1 : Int) (j : Nat), j + k = e ∧ g ≤ j ∧ s12 = .int .i64 (j : Int) ∧ Hid (vr A1 B1 C1 D1 = true ∧ ups (j - g) ⟨La, Lb, Lc, Ld⟩ = ⟨A1, B1, C1, D1⟩) ∧ C4 wr (w4.heap.size + 1) A1 B1 C1 D1 ∧ C4 wr w2.heap.size a b c d ∧ C5 wr w3.heap.size La Lb Lc Ld (g : Int) ∧ Below w.heap.size w wr)
      case atStart =>
        refine ⟨La, Lb, Lc, Ld, g, by omega, Nat.le_refl _, rfl, ⟨HVL.out, by rw [Nat.sub_self]; rfl⟩, C4.ofg La Lb Lc Ld _ (by simp), (u_4.al).al, (xd_4.al).al, ?_⟩
        repeat' (first | (with_reducible assumption) | (with_reducible exact Below.refl _ _) | (with_reducible refine Below.alloc ?_ ?_ _) | (with_reducible refine Below.drew ?_) | (with_reducible refine Below.setCell ?_ ?_ _) | (with_reducible refine Kp.belowA (by with_reducible assumption) ?_ ?_) | (with_reducible refine chain ?_ (by with_reducible assumption) ?_) | omega | (simp; done) | (simp; omega))
      case round =>
        obtain ⟨A1, B1, C1, D1, j, hjk, hgj, rfl, HR, hR, hU, hX, hBw⟩ := hrel
        have hlR := hR.lt
        have hlU := hU.lt
        have hlX := hX.lt
        obtain ⟨r0, r1, r2, r3, r4, r5, r6, r7⟩ := id hR
        obtain ⟨u0, u1, u2, u3, u4, u5, u6, u7⟩ := id hU
        obtain ⟨x0, x1, x2, x3, x4, x5, x6, x7, x8, x9⟩ := id hX
        cases gk with
        | zero =>
          obtain rfl : j = e := by omega
          have h2 := HR.out.2
          rw [HU.out] at h2
          simp only [R4.mk.injEq] at h2
          obtain ⟨rfl, rfl, rfl, rfl⟩ := h2
          have hBc : Bs wr B len2 := HB.out.belowB hBw
          go_wp2_with (first
            | (go_at_call 37; ((with_reducible refine (ivd_v _ HVD.out).mono ?_); rintro ee w5 ⟨rfl, hb5⟩; have hs5 := hb5.size; (try simp at hs5); have hBd := hBc.below hb5))
            | (go_at_call 38; ((with_reducible refine (dCmp hBd).mono ?_); rintro ee w6 ⟨a2, b2, c2, d2, x2, p2, q2, r2, s2, y2, rfl, hb6⟩; have hs6 := hb6.size; (try simp at hs6); obtain ⟨cn, ck, cn1, cn2, ic1, ic2⟩ := cmp_all a2 b2 c2 d2 x2 p2 q2 r2 s2 y2; have IC1 := hid ic1; clear ic1; have IC2 := hid ic2; clear ic2))
            | (go_at_call 39; ((with_reducible refine (IC1.out _).mono ?_); rintro ee w7 ⟨rfl, hb7⟩; have hs7 := hb7.size; (try simp at hs7); have X_7 := ((C5.ofg (W := w6) (g := w6.heap.size) (a2) (b2) (c2) (d2) (x2) 39 (by simp)).al).mono hb7; have Y_7 := (C5.ofg (W := (w6.alloc (.cells #[.int .i64 (a2), .int .i64 (b2), .int .i64 (c2), .int .i64 (d2), .int .i64 (x2)] 39))) (g := w6.heap.size + 1) (p2) (q2) (r2) (s2) (y2) 39 (by simp)).mono hb7; have hl_X_7 := X_7.lt; obtain ⟨cX0, cX1, cX2, cX3, cX4, fX0, fX1, fX2, fX3, fX4⟩ := id X_7; have hl_Y_7 := Y_7.lt; obtain ⟨cY0, cY1, cY2, cY3, cY4, fY0, fY1, fY2, fY3, fY4⟩ := id Y_7))
            | (go_at_call 39; ((with_reducible refine (IC2.out _).mono ?_); rintro ee w8 ⟨rfl, hb8⟩; have hs8 := hb8.size; (try simp at hs8); have X_8 := (X_7).mono hb8; have Y_8 := (Y_7).mono hb8)))
          go_ret
          refine ⟨by simp, ?_⟩
          repeat' (first | (with_reducible assumption) | (with_reducible exact Below.refl _ _) | (with_reducible refine Below.alloc ?_ ?_ _) | (with_reducible refine Below.drew ?_) | (with_reducible refine Below.setCell ?_ ?_ _) | (with_reducible refine Kp.belowA (by with_reducible assumption) ?_ ?_) | (with_reducible refine chain ?_ (by with_reducible assumption) ?_) | omega | (simp; done) | (simp; omega))
        | succ m =>
          have hje : j < e := by omega
          have hji : (j : Int) ≤ 60 := by omega
          cases hv : vr (B1 - D1) (A1 + C1) (B1 + D1) (C1 - A1)
          · have HV := hid hv
            clear hv
            go_wp2_with (first | (go_at_call 36; ((with_reducible refine (root_s_o _ _ _ _ _ HR.out.1 HV.out).mono ?_); rintro ee w9 ⟨rfl, hb9⟩; have hs9 := hb9.size; have hR9 := hR.mono hb9; have hU9 := hU.mono hb9; have hX9 := hX.mono hb9; have hl9 := hR9.lt; have hm9 := hU9.lt; have hn9 := hX9.lt; obtain ⟨n0, n1, n2, n3, n4, n5, n6, n7⟩ := id hR9)) | fail)
            go_ret
            refine ⟨rfl, ?_⟩
            repeat' (first | (with_reducible assumption) | (with_reducible exact Below.refl _ _) | (with_reducible refine Below.alloc ?_ ?_ _) | (with_reducible refine Below.drew ?_) | (with_reducible refine Below.setCell ?_ ?_ _) | (with_reducible refine Kp.belowA (by with_reducible assumption) ?_ ?_) | (with_reducible refine chain ?_ (by with_reducible assumption) ?_) | omega | (simp; done) | (simp; omega))
          · have HV := hid hv
            clear hv
            go_wp2_with (first | (go_at_call 36; ((with_reducible refine (root_s_t _ _ _ _ _ HR.out.1 HV.out).mono ?_); rintro ee w9 ⟨rfl, hb9⟩; have hs9 := hb9.size; have hR9 := hR.mono hb9; have hU9 := hU.mono hb9; have hX9 := hX.mono hb9; have hl9 := hR9.lt; have hm9 := hU9.lt; have hn9 := hX9.lt; obtain ⟨n0, n1, n2, n3, n4, n5, n6, n7⟩ := id hR9)) | fail)
            go_roundg m
            case measure => omega
            case rel =>
              refine ⟨_, _, _, _, j + 1, by omega, by omega, by first | rfl | (simp; done) | go_num, ⟨HV.out, ?_⟩, ?_, ?_, ?_, ?_⟩
              · rw [show j + 1 - g = (j - g) + 1 by omega, ups_up, HR.out.2]; rfl
              · first | exact hR9.put4 _ _ _ _ | exact (hR9.put4 _ _ _ _).al | exact hR9.al.put4 _ _ _ _
              · first | exact hU9.far4 (by omega) | exact (hU9.far4 (by omega)).al | exact hU9.al.far4 (by omega)
              · first | exact hX9.far4 (by omega) | exact (hX9.far4 (by omega)).al | exact hX9.al.far4 (by omega)
              · repeat' (first | (with_reducible assumption) | (with_reducible exact Below.refl _ _) | (with_reducible refine Below.alloc ?_ ?_ _) | (with_reducible refine Below.drew ?_) | (with_reducible refine Below.setCell ?_ ?_ _) | (with_reducible refine Kp.belowA (by with_reducible assumption) ?_ ?_) | (with_reducible refine chain ?_ (by with_reducible assumption) ?_) | omega | (simp; done) | (simp; omega))
end Go.Proofs.Ytefmglofnoinmaa
