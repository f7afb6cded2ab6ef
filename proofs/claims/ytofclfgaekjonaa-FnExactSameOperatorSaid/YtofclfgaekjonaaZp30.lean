/- UnM -/
import Derived.Test.YtofclfgaekjonaaZp20
import Derived.Deep.CutBlock
namespace Go.Proofs.Ytofclfgaekjonaa
open Go.RowKit RM
set_option linter.unusedVariables false
set_option linter.unusedSimpArgs false
attribute [local irreducible] World.setCell

set_option maxRecDepth 100000 in
set_option maxHeartbeats 8000000 in
theorem mumo {ra ca cb : Nat} {g0 h0 o0 n m cp cp' : Nat} {xs ys : List D5} {w : World} (hA : Rd w (some ⟨g0, 0, none⟩) xs) (hB : Rd w (some ⟨h0, o0, none⟩) ys) (hn : xs.length = n) (hm : ys.length = m) (hok : okM (ra : Int) (ca : Int) n xs = true) (hok2 : okM (ca : Int) (cb : Int) m ys = true) {N gc : Nat} (hN9 : N = ra * cb) (hc0 : Bx w gc 116 #[.bool false]) (hg : g0 ≠ gc) (hh : h0 ≠ gc) :
    Calls Try.prog 139 #[.pointer (some ⟨gc, 0, none⟩), mv (ra : Int) (ca : Int) (some ⟨g0, 0, none⟩) n cp, mv (ca : Int) (cb : Int) (some ⟨h0, o0, none⟩) m cp'] w fun ee w' => KM w w' ee gc ra cb N (mmF ca cb xs ys) (mmG ca cb xs ys) := by
  obtain ⟨i0, hi0, hu0, hu1, hu2⟩ := info_parts infoD
  obtain ⟨hnn, a1, a2, a3, a4, a5⟩ := okM_nat2 hok
  obtain ⟨hmm, -, -, b3, b4, b5⟩ := okM_nat2 hok2
  have n32 : N ≤ 1024 := by rw [hN9]; exact Nat.mul_le_mul a2 b4
  have EN := hid hN9
  have XC := hid hc0
  have hgc := hc0.lt
  clear hN9 hc0
  have HA := hid hA
  have HB := hid hB
  have HN := hid hn
  have HM := hid hm
  have HO := hid hok
  have HP := hid hok2
  have HNN := hid hnn
  have HMM := hid hmm
  clear hA hB hn hm hok hok2 hnn hmm
  obtain ⟨F, hF⟩ : ∃ F, F = mmF ca cb xs ys := ⟨_, rfl⟩
  obtain ⟨G, hG⟩ : ∃ G, G = mmG ca cb xs ys := ⟨_, rfl⟩
  have HF := hid hF
  have HG := hid hG
  rw [← hF, ← hG]
  clear hF hG
  go_enter Try.func139, Try.ntmps139
  go_wp2_with (fail)
  go_loopg [8] ra (fun q s1 wr => ∃ (i : Nat) (v : Value) (z : Bool) (zs : List D5), i + q = ra ∧ s1 = .int .i64 (i : Int) ∧ Hid (Bx wr (w.heap.size) 30 #[.int .i64 (ra : Int), .int .i64 (ca : Int), .slice (some ⟨g0, 0, none⟩) n cp]) ∧ Hid (Bx wr (w.heap.size + 1) 30 #[.int .i64 (ca : Int), .int .i64 (cb : Int), .slice (some ⟨h0, o0, none⟩) m cp']) ∧ Hid (Bx wr (w.heap.size + 1 + 1) 30 #[.int .i64 0, .int .i64 0, .slice none 0 0]) ∧ Hid (Bx wr (w.heap.size + 1 + 1 + 1) 30 #[.int .i64 (ra : Int), .int .i64 (cb : Int), v]) ∧ Hid (Bx wr (gc) 116 #[.bool z]) ∧ Hid (Own5 wr (w.heap.size + 1 + 1 + 1 + 1) 99 v zs) ∧ Hid (Sofar z zs (i * cb) F G) ∧ w.heap.size + 1 + 1 + 1 + 1 ≤ wr.heap.size ∧ Hid (Below w.heap.size (w.setCell ⟨gc, 0, none⟩ (.bool z)) wr))
  case atStart =>
    have RC := XC.out
    refine ⟨0, .slice none 0 0, false, [], by omega, rfl, (by show Bx _ _ _ _; exact (((Bx.new rfl).alloc _).alloc _).alloc _), (by show Bx _ _ _ _; exact ((Bx.new (by simp)).alloc _).alloc _), (by show Bx _ _ _ _; exact (Bx.new (by simp)).alloc _), (by show Bx _ _ _ _; exact Bx.new (by simp)), (by show Bx _ _ _ _; exact (((RC.alloc _).alloc _).alloc _).alloc _), Own5.nil _ _ _, ?_, by simp, ?_⟩
    · show Sofar _ _ _ _ _
      rw [Nat.zero_mul]; exact Sofar.start _ _
    · show Below _ _ _
      have h0 := bad_0 (B := w.heap.size) (RC.c 0 rfl)
      exact (((h0.alloc (Nat.le_refl _) _).alloc (by simp) _).alloc (by simp; omega) _).alloc (by simp; omega) _
  case round =>
    obtain ⟨i, v, z, zs, hi, rfl, Xa, Xb, Xz, Xo, Xf, HOw, HS, hsz, HBo⟩ := hrel
    clear XC
    have hBq := HBo.out.size
    rw [World.size_setCell] at hBq
    have ca0 := Xa.out.c 0 rfl
    have ca1 := Xa.out.c 1 rfl
    have ca2 := Xa.out.c 2 rfl
    have la := Xa.out.lt
    have cb0 := Xb.out.c 0 rfl
    have cb1 := Xb.out.c 1 rfl
    have cb2 := Xb.out.c 2 rfl
    have lb := Xb.out.lt
    have cz0 := Xz.out.c 0 rfl
    have cz1 := Xz.out.c 1 rfl
    have cz2 := Xz.out.c 2 rfl
    have lz := Xz.out.lt
    have fz := Xz.out.f
    have co0 := Xo.out.c 0 rfl
    have co1 := Xo.out.c 1 rfl
    have co2 := Xo.out.c 2 rfl
    have lo := Xo.out.lt
    have fo := Xo.out.f
    have cf0 := Xf.out.c 0 rfl
    have lf := Xf.out.lt
    have ff := Xf.out.f
    cases gk with
    | zero =>
      obtain rfl : i = ra := by omega
      obtain ⟨Bo, cq, hv, hRd, hBa⟩ := HOw.out.form
      rw [HS.out.1, ← EN.out] at hv
      subst hv
      have HBa := hid hBa
      have HRd := hid hRd
      clear hRd hBa
      go_wp2_with (fail)
      refine bodyPost_ret (v := mv (i : Int) (cb : Int) Bo N cq) (by first | (simp [results, Try.results139, go_sem, *]; done) | (simp (disch := (first | omega | (simp; done) | (simp; omega))) [results, Try.results139, go_sem, *]; done) | (simp only [results, Try.results139]; go_simp; done)) rfl (KM.i (z := z) (zs := zs) rfl ?_ ?_ ?_ ?_)
      · rw [EN.out]; exact HS.out
      · (repeat' (first | exact HRd.out | refine Rd.far ?_ (fun a ha => by have := (HBa.out a ha).1; show _ ≠ w.heap.size + 1 + 1; omega) _))
      · intro a ha; have := (HBa.out a ha).1; omega
      · have hB := HBo.out
        (repeat' (first | (with_reducible exact Below.refl _ _) | (with_reducible assumption) | (with_reducible refine Below.alloc ?_ ?_ _) | (with_reducible refine Below.drew ?_) | (with_reducible refine below_drewN ?_ _) | (with_reducible refine Below.setCell ?_ ?_ _) | (with_reducible refine chain ?_ (by assumption) ?_) | omega | (simp; done) | (simp; omega)))
    | succ m9 =>
      have hlti : i < ra := by omega
      have i1 : (i : Int) < (ra : Int) := by omega
      go_wp2_with (fail)
      go_loopg [9] cb (fun q s1 wr => ∃ (j : Nat) (v : Value) (z : Bool) (zs : List D5), j + q = cb ∧ s1 = .int .i64 (j : Int) ∧ Hid (Bx wr (w.heap.size) 30 #[.int .i64 (ra : Int), .int .i64 (ca : Int), .slice (some ⟨g0, 0, none⟩) n cp]) ∧ Hid (Bx wr (w.heap.size + 1) 30 #[.int .i64 (ca : Int), .int .i64 (cb : Int), .slice (some ⟨h0, o0, none⟩) m cp']) ∧ Hid (Bx wr (w.heap.size + 1 + 1) 30 #[.int .i64 0, .int .i64 0, .slice none 0 0]) ∧ Hid (Bx wr (w.heap.size + 1 + 1 + 1) 30 #[.int .i64 (ra : Int), .int .i64 (cb : Int), v]) ∧ Hid (Bx wr (gc) 116 #[.bool z]) ∧ Hid (Own5 wr (w.heap.size + 1 + 1 + 1 + 1) 99 v zs) ∧ Hid (Sofar z zs (i * cb + j) F G) ∧ w.heap.size + 1 + 1 + 1 + 1 ≤ wr.heap.size ∧ Hid (Below w.heap.size (w.setCell ⟨gc, 0, none⟩ (.bool z)) wr))
      case atStart => exact ⟨0, v, z, zs, by omega, rfl, Xa, Xb, Xz, Xo, Xf, HOw, HS, hsz, HBo⟩
      case round =>
        clear Xa la ca0 ca1 ca2 Xb lb cb0 cb1 cb2 Xz lz cz0 cz1 cz2 fz Xo lo co0 co1 co2 fo Xf lf cf0 ff HOw HS hsz HBo hBq
        obtain ⟨j, v, z, zs, hj, rfl, Xa, Xb, Xz, Xo, Xf, HOw, HS, hsz, HBo⟩ := hrel
        have hBq := HBo.out.size
        rw [World.size_setCell] at hBq
        have ca0 := Xa.out.c 0 rfl
        have ca1 := Xa.out.c 1 rfl
        have ca2 := Xa.out.c 2 rfl
        have la := Xa.out.lt
        have cb0 := Xb.out.c 0 rfl
        have cb1 := Xb.out.c 1 rfl
        have cb2 := Xb.out.c 2 rfl
        have lb := Xb.out.lt
        have cz0 := Xz.out.c 0 rfl
        have cz1 := Xz.out.c 1 rfl
        have cz2 := Xz.out.c 2 rfl
        have lz := Xz.out.lt
        have fz := Xz.out.f
        have co0 := Xo.out.c 0 rfl
        have co1 := Xo.out.c 1 rfl
        have co2 := Xo.out.c 2 rfl
        have lo := Xo.out.lt
        have fo := Xo.out.f
        have cf0 := Xf.out.c 0 rfl
        have lf := Xf.out.lt
        have ff := Xf.out.f
        cases gk with
        | zero =>
          obtain rfl : j = cb := by omega
          go_wp2_with (fail)
          go_roundg m9
          case measure => omega
          case rel =>
            refine ⟨i + 1, v, z, zs, by omega, by go_num, Xa, Xb, Xz, Xo, Xf, HOw, ?_, hsz, HBo⟩
            show Sofar _ _ _ _ _
            rw [Nat.add_mul, Nat.one_mul]; exact HS.out
        | succ m2 =>
          obtain ⟨wo, rfl⟩ : ∃ wo, wo = wr := ⟨_, rfl⟩
          have hltj : j < cb := by omega
          have j1 : (j : Int) < (cb : Int) := by omega
          have hgw : gc < wo.heap.size := by omega
          go_upto_block 4 with (fail)
          go_cut [] (fun wx => ∃ (s : D5) (z' : Bool), Hid (mmT ca cb xs ys i j z ca = (s, z')) ∧ Hid (s.ok = true) ∧ Hid (Bx wx wo.heap.size 99 #[.int .i64 s.a, .int .i64 s.b, .int .i64 s.c, .int .i64 s.d, .int .i64 s.e]) ∧ Hid (Below wo.heap.size (wo.setCell ⟨gc, 0, none⟩ (.bool z')) wx))
          case first =>
            have hBW0 : Below wo.heap.size (wo.setCell ⟨gc, 0, none⟩ (.bool z)) wo := bad_0 (Xf.out.c 0 rfl)
            have HW0 := hid hBW0
            clear hBW0
            go_wp2_with (fail)
            go_loopg [11] ca (fun q s1 wk => ∃ (k : Nat) (s : D5) (z' : Bool), k + q = ca ∧ s1 = .int .i64 (k : Int) ∧ Hid (mmT ca cb xs ys i j z k = (s, z')) ∧ Hid (s.ok = true) ∧ Hid (Bx wk wo.heap.size 99 #[.int .i64 s.a, .int .i64 s.b, .int .i64 s.c, .int .i64 s.d, .int .i64 s.e]) ∧ Hid (Below wo.heap.size (wo.setCell ⟨gc, 0, none⟩ (.bool z')) wk))
            case atStart =>
              refine ⟨0, z5, z, by omega, rfl, rfl, z5_ok, ?_, ?_⟩
              · show Bx _ _ _ _; first | exact Bx.new rfl | exact Bx.set5 _ (x := z5) (Bx.new rfl)
              · show Below _ _ _; exact HW0.out.alloc (Nat.le_refl _) _
            case round =>
              obtain ⟨k, s, z', hk, rfl, HT, HKs, XS, HBk⟩ := hrel
              clear HW0
              have hBk := HBk.out.size
              rw [World.size_setCell] at hBk
              have ea1 := kbad HBk.out (by omega) (Xa.out.c 1 rfl)
              have ea2 := kbad HBk.out (by omega) (Xa.out.c 2 rfl)
              have eb1 := kbad HBk.out (by omega) (Xb.out.c 1 rfl)
              have eb2 := kbad HBk.out (by omega) (Xb.out.c 2 rfl)
              have XF := hid (Xf.out.bad HBk.out)
              have ef0 := XF.out.c 0 rfl
              have eff := XF.out.f
              clear ca0 ca1 ca2 la cb0 cb1 cb2 lb cz0 cz1 cz2 lz fz co0 co1 co2 lo fo cf0 lf ff
              cases gk with
              | zero =>
                obtain rfl : ca = k := by omega
                go_wp2_with (fail)
                go_meet
                exact ⟨s, z', HT, HKs, XS, HBk⟩
              | succ m3 =>
                have hltk : k < ca := by omega
                have k1 : (k : Int) < (ca : Int) := by omega
                cases z'
                · obtain ⟨sa, sa1, sa2, sa3, sa4⟩ := row_at HNN.out hlti
                  obtain ⟨sb, sb1, sb2, sb3, sb4⟩ := row_at HMM.out hltk
                  obtain ⟨u, hu⟩ : ∃ u, u = sa + k := ⟨_, rfl⟩
                  obtain ⟨t, ht⟩ : ∃ t, t = sb + j := ⟨_, rfl⟩
                  have hun : u < n := by omega
                  have htm : t < m := by omega
                  have hx := get_of (xs := xs) (q := u) (by rw [HN.out]; exact hun)
                  have hy := get_of (xs := ys) (q := t) (by rw [HM.out]; exact htm)
                  obtain ⟨x, hxe⟩ : ∃ x, x = xs.getD u z5 := ⟨_, rfl⟩
                  obtain ⟨y, hye⟩ : ∃ y, y = ys.getD t z5 := ⟨_, rfl⟩
                  rw [← hxe] at hx
                  rw [← hye] at hy
                  have HX : Hid (xs.getD (i * ca + k) z5 = x) := by show _ = x; rw [hxe, hu, sa4]
                  have HY : Hid (ys.getD (k * cb + j) z5 = y) := by show _ = y; rw [hye, ht, sb4]
                  have HKx := hid (all_get (okM_iff.1 HO.out).2.2.2 hx)
                  have HKy := hid (all_get (okM_iff.1 HP.out).2.2.2 hy)
                  have hCx := HA.out.cx hx
                  obtain ⟨h9, o9, e9, hCy⟩ := HB.out t y hy
                  simp only [Option.some.injEq, Addr.mk.injEq, and_true] at e9
                  obtain ⟨rfl, rfl⟩ := e9
                  have far0 : ∀ k, k < w.heap.size → k ≠ gc → wr.heap[k]? = w.heap[k]? := fun k hk hne => ((HBk.out.block k (by omega)).trans (Below.heap_setCell _ _ _ _ (by show k ≠ gc; exact hne))).trans ((HBo.out.block k (by omega)).trans (Below.heap_setCell _ _ _ _ (by show k ≠ gc; exact hne)))
                  obtain ⟨p0, p1, p2, p3, p4⟩ := hCx.at_ (far0 g0 hCx.lt hg)
                  obtain ⟨q0, q1, q2, q3, q4⟩ := hCy.at_ (far0 h0 hCy.lt hh)
                  have e2 : IntKind.i64.wrap (sa : Int) = (sa : Int) := IntWalk.i64_in _ (by omega)
                  have e3 : IntKind.i64.wrap ((sa : Int) + (k : Int)) = (u : Int) := by rw [hu, Int.natCast_add]; exact IntWalk.i64_in _ (by omega)
                  have e4 : (u : Int) < (n : Int) := by omega
                  have e5 : IntKind.i64.wrap (sb : Int) = (sb : Int) := IntWalk.i64_in _ (by omega)
                  have e6 : IntKind.i64.wrap ((sb : Int) + (j : Int)) = (t : Int) := by rw [ht, Int.natCast_add]; exact IntWalk.i64_in _ (by omega)
                  have e7 : (t : Int) < (m : Int) := by omega
                  have s0 := XS.out.c 0 rfl
                  have s1 := XS.out.c 1 rfl
                  have s2 := XS.out.c 2 rfl
                  have s3 := XS.out.c 3 rfl
                  have s4 := XS.out.c 4 rfl
                  clear far0 hCx hCy hx hy hxe hye hu ht sa2 sa4 sb2 sb4
                  go_wp2_with (fail)
                  have ys0 : wr.drew.cell? ⟨wo.heap.size, 0, none⟩ = some (.int .i64 s.a) := s0
                  have ys1 : wr.drew.cell? ⟨wo.heap.size, 1, none⟩ = some (.int .i64 s.b) := s1
                  have ys2 : wr.drew.cell? ⟨wo.heap.size, 2, none⟩ = some (.int .i64 s.c) := s2
                  have ys3 : wr.drew.cell? ⟨wo.heap.size, 3, none⟩ = some (.int .i64 s.d) := s3
                  have ys4 : wr.drew.cell? ⟨wo.heap.size, 4, none⟩ = some (.int .i64 s.e) := s4
                  have yea1 : wr.drew.cell? ⟨w.heap.size, 1, none⟩ = some (.int .i64 (ca : Int)) := ea1
                  have yea2 : wr.drew.cell? ⟨w.heap.size, 2, none⟩ = some (.slice (some ⟨g0, 0, none⟩) n cp) := ea2
                  have yeb1 : wr.drew.cell? ⟨w.heap.size + 1, 1, none⟩ = some (.int .i64 (cb : Int)) := eb1
                  have yeb2 : wr.drew.cell? ⟨w.heap.size + 1, 2, none⟩ = some (.slice (some ⟨h0, o0, none⟩) m cp') := eb2
                  have yp0 : wr.drew.cell? ⟨g0, u * 5, none⟩ = some (.int .i64 x.a) := p0
                  have yp1 : wr.drew.cell? ⟨g0, u * 5 + 1, none⟩ = some (.int .i64 x.b) := p1
                  have yp2 : wr.drew.cell? ⟨g0, u * 5 + 2, none⟩ = some (.int .i64 x.c) := p2
                  have yp3 : wr.drew.cell? ⟨g0, u * 5 + 3, none⟩ = some (.int .i64 x.d) := p3
                  have yp4 : wr.drew.cell? ⟨g0, u * 5 + 4, none⟩ = some (.int .i64 x.e) := p4
                  have yq0 : wr.drew.cell? ⟨h0, o0 + t * 5, none⟩ = some (.int .i64 y.a) := q0
                  have yq1 : wr.drew.cell? ⟨h0, o0 + t * 5 + 1, none⟩ = some (.int .i64 y.b) := q1
                  have yq2 : wr.drew.cell? ⟨h0, o0 + t * 5 + 2, none⟩ = some (.int .i64 y.c) := q2
                  have yq3 : wr.drew.cell? ⟨h0, o0 + t * 5 + 3, none⟩ = some (.int .i64 y.d) := q3
                  have yq4 : wr.drew.cell? ⟨h0, o0 + t * 5 + 4, none⟩ = some (.int .i64 y.e) := q4
                  refine wp_region_x (fun w' => w'.cell? ⟨wo.heap.size, 0, none⟩ = some (.int .i64 s.a) ∧ w'.cell? ⟨wo.heap.size, 1, none⟩ = some (.int .i64 s.b) ∧ w'.cell? ⟨wo.heap.size, 2, none⟩ = some (.int .i64 s.c) ∧ w'.cell? ⟨wo.heap.size, 3, none⟩ = some (.int .i64 s.d) ∧ w'.cell? ⟨wo.heap.size, 4, none⟩ = some (.int .i64 s.e) ∧ w'.cell? ⟨w.heap.size, 1, none⟩ = some (.int .i64 (ca : Int)) ∧ w'.cell? ⟨w.heap.size, 2, none⟩ = some (.slice (some ⟨g0, 0, none⟩) n cp) ∧ w'.cell? ⟨w.heap.size + 1, 1, none⟩ = some (.int .i64 (cb : Int)) ∧ w'.cell? ⟨w.heap.size + 1, 2, none⟩ = some (.slice (some ⟨h0, o0, none⟩) m cp') ∧ w'.cell? ⟨g0, u * 5, none⟩ = some (.int .i64 x.a) ∧ w'.cell? ⟨g0, u * 5 + 1, none⟩ = some (.int .i64 x.b) ∧ w'.cell? ⟨g0, u * 5 + 2, none⟩ = some (.int .i64 x.c) ∧ w'.cell? ⟨g0, u * 5 + 3, none⟩ = some (.int .i64 x.d) ∧ w'.cell? ⟨g0, u * 5 + 4, none⟩ = some (.int .i64 x.e) ∧ w'.cell? ⟨h0, o0 + t * 5, none⟩ = some (.int .i64 y.a) ∧ w'.cell? ⟨h0, o0 + t * 5 + 1, none⟩ = some (.int .i64 y.b) ∧ w'.cell? ⟨h0, o0 + t * 5 + 2, none⟩ = some (.int .i64 y.c) ∧ w'.cell? ⟨h0, o0 + t * 5 + 3, none⟩ = some (.int .i64 y.d) ∧ w'.cell? ⟨h0, o0 + t * 5 + 4, none⟩ = some (.int .i64 y.e)) 25 (by kernel_rfl) ⟨ys0, ys1, ys2, ys3, ys4, yea1, yea2, yeb1, yeb2, yp0, yp1, yp2, yp3, yp4, yq0, yq1, yq2, yq3, yq4⟩ (fun hS0 => ?_)
                  refine wpAnyX_take (i := 0) (oi := _) (v := ?_) rfl (by kernel_rfl) (by kernel_rfl) (by kernel_rfl) (by kernel_rfl) (fun _ _ _ h => h) (Or.inl ⟨by rfl, ?_⟩) hS0 ?_
                  rotate_left 1
                  · (intro w hSw; (try dsimp only at hSw); go_simp; (try with_reducible rfl))
                  try simp only [Act.put, List.setIfInBounds_toArray, List.set_cons_zero, List.set_cons_succ]
                  refine wpAnyX_take (i := 1) (oi := _) (v := ?_) rfl (by kernel_rfl) (by kernel_rfl) (by kernel_rfl) (by kernel_rfl) (fun _ _ _ h => h) (Or.inl ⟨by rfl, ?_⟩) hS0 ?_
                  rotate_left 1
                  · (intro w hSw; (try dsimp only at hSw); go_simp; (try with_reducible rfl))
                  try simp only [Act.put, List.setIfInBounds_toArray, List.set_cons_zero, List.set_cons_succ]
                  refine wpAnyX_take (i := 2) (oi := _) (v := ?_) rfl (by kernel_rfl) (by kernel_rfl) (by kernel_rfl) (by kernel_rfl) (fun _ _ _ h => h) (Or.inl ⟨by rfl, ?_⟩) hS0 ?_
                  rotate_left 1
                  · (intro w hSw; (try dsimp only at hSw); go_simp; (try with_reducible rfl))
                  try simp only [Act.put, List.setIfInBounds_toArray, List.set_cons_zero, List.set_cons_succ]
                  refine wpAnyX_take (i := 3) (oi := _) (v := ?_) rfl (by kernel_rfl) (by kernel_rfl) (by kernel_rfl) (by kernel_rfl) (fun _ _ _ h => h) (Or.inl ⟨by rfl, ?_⟩) hS0 ?_
                  rotate_left 1
                  · (intro w hSw; (try dsimp only at hSw); go_simp; (try with_reducible rfl))
                  try simp only [Act.put, List.setIfInBounds_toArray, List.set_cons_zero, List.set_cons_succ]
                  refine wpAnyX_take (i := 4) (oi := _) (v := ?_) rfl (by kernel_rfl) (by kernel_rfl) (by kernel_rfl) (by kernel_rfl) (fun _ _ _ h => h) (Or.inl ⟨by rfl, ?_⟩) hS0 ?_
                  rotate_left 1
                  · (intro w hSw; (try dsimp only at hSw); go_simp; (try with_reducible rfl))
                  try simp only [Act.put, List.setIfInBounds_toArray, List.set_cons_zero, List.set_cons_succ]
                  refine wpAnyX_take (i := 5) (oi := _) (v := ?_) rfl (by kernel_rfl) (by kernel_rfl) (by kernel_rfl) (by kernel_rfl) (fun _ _ _ h => h) (Or.inl ⟨by rfl, ?_⟩) hS0 ?_
                  rotate_left 1
                  · (intro w hSw; (try dsimp only at hSw); go_simp; (try with_reducible rfl))
                  try simp only [Act.put, List.setIfInBounds_toArray, List.set_cons_zero, List.set_cons_succ]
                  refine wpAnyX_take (i := 6) (oi := _) (v := ?_) rfl (by kernel_rfl) (by kernel_rfl) (by kernel_rfl) (by kernel_rfl) (fun _ _ _ h => h) (Or.inl ⟨by rfl, ?_⟩) hS0 ?_
                  rotate_left 1
                  · (intro w hSw; (try dsimp only at hSw); go_simp; (try with_reducible rfl))
                  try simp only [Act.put, List.setIfInBounds_toArray, List.set_cons_zero, List.set_cons_succ]
                  refine wpAnyX_take (i := 7) (oi := _) (v := ?_) rfl (by kernel_rfl) (by kernel_rfl) (by kernel_rfl) (by kernel_rfl) (fun _ _ _ h => h) (Or.inl ⟨by rfl, ?_⟩) hS0 ?_
                  rotate_left 1
                  · (intro w hSw; (try dsimp only at hSw); go_simp; (try with_reducible rfl))
                  try simp only [Act.put, List.setIfInBounds_toArray, List.set_cons_zero, List.set_cons_succ]
                  refine wpAnyX_take (i := 8) (oi := _) (v := ?_) rfl (by kernel_rfl) (by kernel_rfl) (by kernel_rfl) (by kernel_rfl) (fun _ _ _ h => h) (Or.inl ⟨by rfl, ?_⟩) hS0 ?_
                  rotate_left 1
                  · (intro w hSw; (try dsimp only at hSw); go_simp; (try with_reducible rfl))
                  try simp only [Act.put, List.setIfInBounds_toArray, List.set_cons_zero, List.set_cons_succ]
                  refine wpAnyX_take (i := 9) (oi := _) (v := ?_) rfl (by kernel_rfl) (by kernel_rfl) (by kernel_rfl) (by kernel_rfl) (fun _ _ _ h => h) (Or.inl ⟨by rfl, ?_⟩) hS0 ?_
                  rotate_left 1
                  · (intro w hSw; (try dsimp only at hSw); go_simp; (try with_reducible rfl))
                  try simp only [Act.put, List.setIfInBounds_toArray, List.set_cons_zero, List.set_cons_succ]
                  refine wpAnyX_take (i := 10) (oi := _) (v := ?_) rfl (by kernel_rfl) (by kernel_rfl) (by kernel_rfl) (by kernel_rfl) (fun _ _ _ h => h) (Or.inl ⟨by rfl, ?_⟩) hS0 ?_
                  rotate_left 1
                  · (intro w hSw; (try dsimp only at hSw); go_simp; (try with_reducible rfl))
                  try simp only [Act.put, List.setIfInBounds_toArray, List.set_cons_zero, List.set_cons_succ]
                  refine wpAnyX_take (i := 11) (oi := _) (v := ?_) rfl (by kernel_rfl) (by kernel_rfl) (by kernel_rfl) (by kernel_rfl) (fun _ _ _ h => h) (Or.inl ⟨by rfl, ?_⟩) hS0 ?_
                  rotate_left 1
                  · (intro w hSw; (try dsimp only at hSw); go_simp; (try with_reducible rfl))
                  try simp only [Act.put, List.setIfInBounds_toArray, List.set_cons_zero, List.set_cons_succ]
                  refine wpAnyX_take (i := 12) (oi := _) (v := ?_) rfl (by kernel_rfl) (by kernel_rfl) (by kernel_rfl) (by kernel_rfl) (fun _ _ _ h => h) (Or.inl ⟨by rfl, ?_⟩) hS0 ?_
                  rotate_left 1
                  · (intro w hSw; (try dsimp only at hSw); go_simp; (try with_reducible rfl))
                  try simp only [Act.put, List.setIfInBounds_toArray, List.set_cons_zero, List.set_cons_succ]
                  refine wpAnyX_take (i := 13) (oi := _) (v := ?_) rfl (by kernel_rfl) (by kernel_rfl) (by kernel_rfl) (by kernel_rfl) (fun _ _ _ h => h) (Or.inl ⟨by rfl, ?_⟩) hS0 ?_
                  rotate_left 1
                  · (intro w hSw; (try dsimp only at hSw); go_simp; (try with_reducible rfl))
                  try simp only [Act.put, List.setIfInBounds_toArray, List.set_cons_zero, List.set_cons_succ]
                  refine wpAnyX_take (i := 14) (oi := _) (v := ?_) rfl (by kernel_rfl) (by kernel_rfl) (by kernel_rfl) (by kernel_rfl) (fun _ _ _ h => h) (Or.inl ⟨by rfl, ?_⟩) hS0 ?_
                  rotate_left 1
                  · (intro w hSw; (try dsimp only at hSw); go_simp; (try with_reducible rfl))
                  try simp only [Act.put, List.setIfInBounds_toArray, List.set_cons_zero, List.set_cons_succ]
                  refine wpAnyX_take (i := 15) (oi := _) (v := ?_) rfl (by kernel_rfl) (by kernel_rfl) (by kernel_rfl) (by kernel_rfl) (fun _ _ _ h => h) (Or.inl ⟨by rfl, ?_⟩) hS0 ?_
                  rotate_left 1
                  · (intro w hSw; (try dsimp only at hSw); go_simp; (try with_reducible rfl))
                  try simp only [Act.put, List.setIfInBounds_toArray, List.set_cons_zero, List.set_cons_succ]
                  refine wpAnyX_take (i := 16) (oi := _) (v := ?_) rfl (by kernel_rfl) (by kernel_rfl) (by kernel_rfl) (by kernel_rfl) (fun _ _ _ h => h) (Or.inl ⟨by rfl, ?_⟩) hS0 ?_
                  rotate_left 1
                  · (intro w hSw; (try dsimp only at hSw); go_simp; (try with_reducible rfl))
                  try simp only [Act.put, List.setIfInBounds_toArray, List.set_cons_zero, List.set_cons_succ]
                  refine wpAnyX_take (i := 17) (oi := _) (v := ?_) rfl (by kernel_rfl) (by kernel_rfl) (by kernel_rfl) (by kernel_rfl) (fun _ _ _ h => h) (Or.inl ⟨by rfl, ?_⟩) hS0 ?_
                  rotate_left 1
                  · (intro w hSw; (try dsimp only at hSw); go_simp; (try with_reducible rfl))
                  try simp only [Act.put, List.setIfInBounds_toArray, List.set_cons_zero, List.set_cons_succ]
                  refine wpAnyX_take (i := 18) (oi := _) (v := ?_) rfl (by kernel_rfl) (by kernel_rfl) (by kernel_rfl) (by kernel_rfl) (fun _ _ _ h => h) (Or.inl ⟨by rfl, ?_⟩) hS0 ?_
                  rotate_left 1
                  · (intro w hSw; (try dsimp only at hSw); go_simp; (try with_reducible rfl))
                  try simp only [Act.put, List.setIfInBounds_toArray, List.set_cons_zero, List.set_cons_succ]
                  refine wpAnyX_take (i := 19) (oi := _) (v := ?_) rfl (by kernel_rfl) (by kernel_rfl) (by kernel_rfl) (by kernel_rfl) (fun _ _ _ h => h) (Or.inl ⟨by rfl, ?_⟩) hS0 ?_
                  rotate_left 1
                  · (intro w hSw; (try dsimp only at hSw); go_simp; (try with_reducible rfl))
                  try simp only [Act.put, List.setIfInBounds_toArray, List.set_cons_zero, List.set_cons_succ]
                  refine wpAnyX_take (i := 20) (oi := _) (v := ?_) rfl (by kernel_rfl) (by kernel_rfl) (by kernel_rfl) (by kernel_rfl) (fun _ _ _ h => h) (Or.inl ⟨by rfl, ?_⟩) hS0 ?_
                  rotate_left 1
                  · (intro w hSw; (try dsimp only at hSw); go_simp; (try with_reducible rfl))
                  try simp only [Act.put, List.setIfInBounds_toArray, List.set_cons_zero, List.set_cons_succ]
                  refine wpAnyX_take (i := 21) (oi := _) (v := ?_) rfl (by kernel_rfl) (by kernel_rfl) (by kernel_rfl) (by kernel_rfl) (fun _ _ _ h => h) (Or.inl ⟨by rfl, ?_⟩) hS0 ?_
                  rotate_left 1
                  · (intro w hSw; (try dsimp only at hSw); go_simp; (try with_reducible rfl))
                  try simp only [Act.put, List.setIfInBounds_toArray, List.set_cons_zero, List.set_cons_succ]
                  refine wpAnyX_take (i := 22) (oi := _) (v := ?_) rfl (by kernel_rfl) (by kernel_rfl) (by kernel_rfl) (by kernel_rfl) (fun _ _ _ h => h) (Or.inl ⟨by rfl, ?_⟩) hS0 ?_
                  rotate_left 1
                  · (intro w hSw; (try dsimp only at hSw); go_simp; (try with_reducible rfl))
                  try simp only [Act.put, List.setIfInBounds_toArray, List.set_cons_zero, List.set_cons_succ]
                  refine wpAnyX_one (i := 23) (o := _) rfl (by kernel_rfl) (fun K hK => ?_)
                  go_simp
                  refine (cmul (x := x) (y := y) (z := false) HKx.out HKy.out (by exact ef0) (by exact eff 0)).mono ?_
                  rintro ee wa ⟨rfl, hba⟩
                  have hbb := bad_drew hba
                  have hza := bad_size hbb
                  have Yf := Bx.bad XF.out hbb
                  have yf0 := Yf.c 0 rfl
                  have yff := Yf.f
                  refine hK.out _ _ (fun _ => ?_) (fun hS1 => ?_)
                  · exact ⟨kbad hba (by omega) (hS0.1), kbad hba (by omega) (hS0.2.1), kbad hba (by omega) (hS0.2.2.1), kbad hba (by omega) (hS0.2.2.2.1), kbad hba (by omega) (hS0.2.2.2.2.1), kbad hba (by omega) (hS0.2.2.2.2.2.1), kbad hba (by omega) (hS0.2.2.2.2.2.2.1), kbad hba (by omega) (hS0.2.2.2.2.2.2.2.1), kbad hba (by omega) (hS0.2.2.2.2.2.2.2.2.1), kbad hba (by omega) (hS0.2.2.2.2.2.2.2.2.2.1), kbad hba (by omega) (hS0.2.2.2.2.2.2.2.2.2.2.1), kbad hba (by omega) (hS0.2.2.2.2.2.2.2.2.2.2.2.1), kbad hba (by omega) (hS0.2.2.2.2.2.2.2.2.2.2.2.2.1), kbad hba (by omega) (hS0.2.2.2.2.2.2.2.2.2.2.2.2.2.1), kbad hba (by omega) (hS0.2.2.2.2.2.2.2.2.2.2.2.2.2.2.1), kbad hba (by omega) (hS0.2.2.2.2.2.2.2.2.2.2.2.2.2.2.2.1), kbad hba (by omega) (hS0.2.2.2.2.2.2.2.2.2.2.2.2.2.2.2.2.1), kbad hba (by omega) (hS0.2.2.2.2.2.2.2.2.2.2.2.2.2.2.2.2.2.1), kbad hba (by omega) (hS0.2.2.2.2.2.2.2.2.2.2.2.2.2.2.2.2.2.2)⟩
                  clear hK K
                  have hS1 := hS1 (by decide)
                  try simp only [Act.put, List.setIfInBounds_toArray, List.set_cons_zero, List.set_cons_succ]
                  refine wpAnyX_one (i := 24) (o := _) rfl (by kernel_rfl) (fun K hK => ?_)
                  go_simp
                  refine (cadd (x := s) (y := (mulS false x y).1) (z := (mulS false x y).2) HKs.out (mulS_ok HKx.out HKy.out) (by exact yf0) (by exact yff 0)).mono ?_
                  rintro ee wb ⟨rfl, hbc⟩
                  have hzb := bad_size hbc
                  refine hK.out _ _ (fun _ => ?_) (fun hS2 => ?_)
                  · exact ⟨kbad hbc (by omega) (hS1.1), kbad hbc (by omega) (hS1.2.1), kbad hbc (by omega) (hS1.2.2.1), kbad hbc (by omega) (hS1.2.2.2.1), kbad hbc (by omega) (hS1.2.2.2.2.1), kbad hbc (by omega) (hS1.2.2.2.2.2.1), kbad hbc (by omega) (hS1.2.2.2.2.2.2.1), kbad hbc (by omega) (hS1.2.2.2.2.2.2.2.1), kbad hbc (by omega) (hS1.2.2.2.2.2.2.2.2.1), kbad hbc (by omega) (hS1.2.2.2.2.2.2.2.2.2.1), kbad hbc (by omega) (hS1.2.2.2.2.2.2.2.2.2.2.1), kbad hbc (by omega) (hS1.2.2.2.2.2.2.2.2.2.2.2.1), kbad hbc (by omega) (hS1.2.2.2.2.2.2.2.2.2.2.2.2.1), kbad hbc (by omega) (hS1.2.2.2.2.2.2.2.2.2.2.2.2.2.1), kbad hbc (by omega) (hS1.2.2.2.2.2.2.2.2.2.2.2.2.2.2.1), kbad hbc (by omega) (hS1.2.2.2.2.2.2.2.2.2.2.2.2.2.2.2.1), kbad hbc (by omega) (hS1.2.2.2.2.2.2.2.2.2.2.2.2.2.2.2.2.1), kbad hbc (by omega) (hS1.2.2.2.2.2.2.2.2.2.2.2.2.2.2.2.2.2.1), kbad hbc (by omega) (hS1.2.2.2.2.2.2.2.2.2.2.2.2.2.2.2.2.2.2)⟩
                  clear hK K
                  have hS2 := hS2 (by decide)
                  try simp only [Act.put, List.setIfInBounds_toArray, List.set_cons_zero, List.set_cons_succ]
                  refine wpAnyX_one (i := 25) (o := _) rfl (by kernel_rfl) (fun K hK => ?_)
                  have Ys := (XS.out.badly hbb (by omega)).badly hbc (by omega)
                  have ys0 := Ys.c 0 rfl
                  have ys1 := Ys.c 1 rfl
                  have ys2 := Ys.c 2 rfl
                  have ys3 := Ys.c 3 rfl
                  have ys4 := Ys.c 4 rfl
                  have ysf := Ys.f
                  go_simp
                  refine hK.out _ _ (fun h => absurd rfl h) (fun _ => ?_)
                  clear hK K
                  try simp only [Act.put, List.setIfInBounds_toArray, List.set_cons_zero, List.set_cons_succ]
                  refine wpAnyX_done (by kernel_rfl) ?_ _
                  go_wp2_with (fail)
                  go_roundg m3
                  case measure => omega
                  case rel =>
                    refine ⟨k + 1, (addS (mulS false x y).2 s (mulS false x y).1).1, (addS (mulS false x y).2 s (mulS false x y).1).2, by omega, by go_num, ?_, ?_, ?_, ?_⟩
                    · show _ = _; exact mmT_next HT.out HX.out HY.out
                    · show _ = _; exact addS_ok HKs.out (mulS_ok HKx.out HKy.out)
                    · show Bx _ _ _ _; exact Ys.set5 _
                    · show Below _ _ _; exact set5_below (x := (addS (mulS false x y).2 s (mulS false x y).1).1) (bad_step (bad_step HBk.out hgw hbb (by omega)) hgw hbc (by omega)) (Nat.le_refl _)
                · go_wp2_with (fail)
                  go_meet
                  exact ⟨s, true, hid (mmT_end HT.out (by omega)), HKs, XS, HBk⟩
          case rest =>
            obtain ⟨wx, rfl⟩ : ∃ wx, wx = wc := ⟨_, rfl⟩
            obtain ⟨s, z', HT, HKs, XS, HBx⟩ := hcut
            have hBx := HBx.out.size
            rw [World.size_setCell] at hBx
            have iqj : i * cb + j < N := by rw [EN.out]; exact idx_lt hlti hltj
            have hl := HS.out.1
            have HL := hid hl
            have hvl := World.ownsRow.lt HOw.out
            have HVL := hid hvl
            clear hl
            have nea : some (w.heap.size) ≠ v.ownBlock := fun e => by have := (hvl _ e.symm); omega
            have neb : some (w.heap.size + 1) ≠ v.ownBlock := fun e => by have := (hvl _ e.symm); omega
            have nez : some (w.heap.size + 1 + 1) ≠ v.ownBlock := fun e => by have := (hvl _ e.symm); omega
            have neo : some (w.heap.size + 1 + 1 + 1) ≠ v.ownBlock := fun e => by have := (hvl _ e.symm); omega
            have nef : some (gc) ≠ v.ownBlock := fun e => by have := (hvl _ e.symm); omega
            have Ya := hid (Xa.out.badly HBx.out (by omega))
            have Yb := hid (Xb.out.badly HBx.out (by omega))
            have Yz := hid (Xz.out.badly HBx.out (by omega))
            have Yo := hid (Xo.out.badly HBx.out (by omega))
            have Yf := hid (Xf.out.bad HBx.out)
            have HOw2 := hid (HOw.out.badly HBx.out (by omega))
            have HBW := hid (bad_step HBo.out hgc HBx.out (by omega))
            clear hvl HOw HBo HBx Xa la ca0 ca1 ca2 Xb lb cb0 cb1 cb2 Xz lz cz0 cz1 cz2 fz Xo lo co0 co1 co2 fo Xf lf cf0 ff
            have Xa := Ya
            have Xb := Yb
            have Xz := Yz
            have Xo := Yo
            have Xf := Yf
            clear Ya Yb Yz Yo Yf
            have ca0 := Xa.out.c 0 rfl
            have ca1 := Xa.out.c 1 rfl
            have ca2 := Xa.out.c 2 rfl
            have la := Xa.out.lt
            have cb0 := Xb.out.c 0 rfl
            have cb1 := Xb.out.c 1 rfl
            have cb2 := Xb.out.c 2 rfl
            have lb := Xb.out.lt
            have cz0 := Xz.out.c 0 rfl
            have cz1 := Xz.out.c 1 rfl
            have cz2 := Xz.out.c 2 rfl
            have lz := Xz.out.lt
            have fz := Xz.out.f
            have co0 := Xo.out.c 0 rfl
            have co1 := Xo.out.c 1 rfl
            have co2 := Xo.out.c 2 rfl
            have lo := Xo.out.lt
            have fo := Xo.out.f
            have cf0 := Xf.out.c 0 rfl
            have lf := Xf.out.lt
            have ff := Xf.out.f
            have s0 := XS.out.c 0 rfl
            have s1 := XS.out.c 1 rfl
            have s2 := XS.out.c 2 rfl
            have s3 := XS.out.c 3 rfl
            have s4 := XS.out.c 4 rfl
            go_wp2_with (at_builtin; refine wpList_append_lies _ rfl _ _ _ rfl (w.heap.size + 1 + 1 + 1 + 1) 99 i0 _ 5 40 Try.underlying28 hi0 hu0 hu1 hu2 rfl (by omega) v (i * cb + j) (csL zs) rfl (World.ownsRow.alloc (by have := HOw2.out; unfold Own5 at this; rw [HL.out] at this; exact this) _) ⟨wx.heap.size, 0, none⟩ 1 1 s.cs rfl rfl (World.news_of_block (cs := s.cs.toArray) (t := 99) (fr := (0, 0)) (heap_alloc_new _ _)) (by simp [D5.cs, Value.oneCell']) (by omega) (append_ok (by omega)).1 (append_ok (by omega)).2 (by simp; omega) (wx.heap.size + 1) (by simp) ?_; intro gg cap wb hownb hgrowb hatb hltb; have Yo := (Bx.alloc Xo.out _).grown hgrowb neo; have yo2 := Yo.c 2 rfl; have yof := Yo.f 2)
            go_roundg m2
            case measure => omega
            case rel =>
              have hzb := hgrowb.size
              simp only [World.size_alloc] at hzb
              have Ya := (Bx.alloc Xa.out _).grown hgrowb nea
              have Yb := (Bx.alloc Xb.out _).grown hgrowb neb
              have Yz := (Bx.alloc Xz.out _).grown hgrowb nez
              have Yf := (Bx.alloc Xf.out _).grown hgrowb nef
              refine ⟨j + 1, .slice (some ⟨gg, 0, none⟩) (i * cb + j + 1) cap, z', zs ++ [s], by omega, by go_num, Ya.far (by omega), Yb.far (by omega), Yz.far (by omega), Yo.set rfl, Yf.far (by omega), ?_, ?_, by (try simp only [World.size_setCell]); omega, ?_⟩
              · show Own5 _ _ _ _ _
                exact (Own5.snoc HL.out hownb).far (by show w.heap.size + 1 + 1 + 1 < _; omega) _
              · refine HS.out.next (r := (s, z')) (fun h => ?_) (fun h => ?_)
                · have h1 := HT.out
                  rw [h] at h1
                  rw [HF.out, HG.out, (mm_at hltj).1, (mm_at hltj).2, h1]
                · have h1 := HT.out
                  rw [h] at h1
                  have h2 := mmT_t (ca := ca) (cb := cb) (xs := xs) (ys := ys) (i := i) (j := j) (K := ca)
                  rw [h1] at h2
                  exact h2
              · show Below _ _ _
                refine Below.setCell ?_ (by show w.heap.size ≤ w.heap.size + 1 + 1 + 1; omega) _
                refine Below.grown (HBW.out.alloc (by omega) _) hgrowb (by simp only [World.size_alloc]; omega) (fun q e => by have := (HVL.out _ e).1; omega)

end Go.Proofs.Ytofclfgaekjonaa
