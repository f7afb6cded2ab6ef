/- The model of ScaleMatrix. -/
import Derived.Test.YtncgccpkbneagaaZcol
import Derived.Test.YtncgccpkbneagaaKrJ
import Derived.Test.YtncgccpkbneagaaKrS
import Derived.Test.YtncgccpkbneagaaZdy
namespace Go.Proofs.Ytncgccpkbneagaa
open Go.RowKit RM
set_option linter.unusedVariables false
set_option linter.unusedSimpArgs false
attribute [local irreducible] World.setCell

/-- the scaled numbers, and which fail -/
def scF (xs : List D5) (x : D5) (q : Nat) : D5 := (mulS false (xs.getD q z5) x).1
def scG (xs : List D5) (x : D5) (q : Nat) : Bool := (mulS false (xs.getD q z5) x).2
theorem g2_ok {x : D5} (w : World) (h : x.ok = true) :
    Calls Try.prog 86 #[dy x.a x.b x.c x.d x.e] w fun ee w' => ee = .returned (.bool true) ∧ Below w.heap.size w w' := by
  obtain ⟨a, b, c, d, e'⟩ := x
  obtain ⟨e, h1, h2⟩ := ok_nat h
  dsimp only at h1 h2 ⊢
  subst h1
  exact g2_t w h2
theorem g2_bad {x : D5} (w : World) (h : x.ok = false) :
    Calls Try.prog 86 #[dy x.a x.b x.c x.d x.e] w fun ee w' => ee = .returned (.bool false) ∧ Below w.heap.size w w' := g2_no w (by unfold D5.ok at h; exact h)

set_option maxRecDepth 100000 in
set_option maxHeartbeats 4000000 in
theorem sc_s_v {r c : Int} {g0 n cp : Nat} {xs : List D5} {x : D5} {w : World} (hA : Rd w (some ⟨g0, 0, none⟩) xs) (hn : xs.length = n) (hok : okM r c n xs = false) :
    Calls Try.prog 35 #[mv r c (some ⟨g0, 0, none⟩) n cp, dy x.a x.b x.c x.d x.e] w fun ee w' => ee = .returned (mt 0 0 none 0 0 false) ∧ Below w.heap.size w w' := by
  have HA := hid hA
  have HN := hid hn
  have HO := hid hok
  clear hA hn hok
  go_enter Try.func35, Try.ntmps35
  go_wp2_with (fail)
  refine (vm_s_f (xs := xs) HO.out ?_ HN.out).mono ?_
  · exact HA.out.mono (by (repeat' (first | (with_reducible exact Below.refl _ _) | (with_reducible assumption) | (with_reducible refine Below.alloc ?_ ?_ _) | (with_reducible refine Below.drew ?_) | (with_reducible refine below_drewN ?_ _) | (with_reducible refine Below.setCell ?_ ?_ _) | (with_reducible refine chain ?_ (by assumption) ?_) | omega | (simp; done) | (simp; omega))))
  rintro ee w1 ⟨rfl, hb1⟩
  obtain ⟨hc1, hf1, _⟩ := bcell hb1; have hz1 := hb1.size; (try simp at hz1); (try have hx10 : w.heap.size < w1.heap.size := (by omega)); (try have hx11 : w.heap.size + 1 < w1.heap.size := (by omega)); (try have hx12 : w.heap.size + 1 + 1 < w1.heap.size := (by omega)); (try have hx13 : w.heap.size + 1 + 1 + 1 < w1.heap.size := (by omega))
  go_wp2_with (fail)
  refine bodyPost_ret (v := mt 0 0 none 0 0 false) (by first | (simp [results, Try.results35, go_sem, *]; done) | (simp (disch := (first | omega | (simp; done) | (simp; omega))) [results, Try.results35, go_sem, *]; done) | (simp only [results, Try.results35]; go_simp; done)) rfl ⟨rfl, ?_⟩
  (repeat' (first | (with_reducible exact Below.refl _ _) | (with_reducible assumption) | (with_reducible refine Below.alloc ?_ ?_ _) | (with_reducible refine Below.drew ?_) | (with_reducible refine below_drewN ?_ _) | (with_reducible refine Below.setCell ?_ ?_ _) | (with_reducible refine chain ?_ (by assumption) ?_) | omega | (simp; done) | (simp; omega)))

set_option maxRecDepth 100000 in
set_option maxHeartbeats 4000000 in
theorem sc_s_x {r c : Int} {g0 n cp : Nat} {xs : List D5} {x : D5} {w : World} (hA : Rd w (some ⟨g0, 0, none⟩) xs) (hn : xs.length = n) (hok : okM r c n xs = true) (hx : x.ok = false) :
    Calls Try.prog 35 #[mv r c (some ⟨g0, 0, none⟩) n cp, dy x.a x.b x.c x.d x.e] w fun ee w' => ee = .returned (mt 0 0 none 0 0 false) ∧ Below w.heap.size w w' := by
  have HX := hid hx
  clear hx
  have HA := hid hA
  have HN := hid hn
  have HO := hid hok
  clear hA hn hok
  go_enter Try.func35, Try.ntmps35
  go_wp2_with (fail)
  refine (vm_s_t (xs := xs) HO.out ?_ HN.out).mono ?_
  · exact HA.out.mono (by (repeat' (first | (with_reducible exact Below.refl _ _) | (with_reducible assumption) | (with_reducible refine Below.alloc ?_ ?_ _) | (with_reducible refine Below.drew ?_) | (with_reducible refine below_drewN ?_ _) | (with_reducible refine Below.setCell ?_ ?_ _) | (with_reducible refine chain ?_ (by assumption) ?_) | omega | (simp; done) | (simp; omega))))
  rintro ee w1 ⟨rfl, hb1⟩
  obtain ⟨hc1, hf1, _⟩ := bcell hb1; have hz1 := hb1.size; (try simp at hz1); (try have hx10 : w.heap.size < w1.heap.size := (by omega)); (try have hx11 : w.heap.size + 1 < w1.heap.size := (by omega)); (try have hx12 : w.heap.size + 1 + 1 < w1.heap.size := (by omega)); (try have hx13 : w.heap.size + 1 + 1 + 1 < w1.heap.size := (by omega))
  have hw1 : Below w.heap.size w w1 := by (repeat' (first | (with_reducible exact Below.refl _ _) | (with_reducible assumption) | (with_reducible refine Below.alloc ?_ ?_ _) | (with_reducible refine Below.drew ?_) | (with_reducible refine below_drewN ?_ _) | (with_reducible refine Below.setCell ?_ ?_ _) | (with_reducible refine chain ?_ (by assumption) ?_) | omega | (simp; done) | (simp; omega)))
  go_wp2_with (fail)
  refine (g2_bad _ HX.out).mono ?_
  rintro ee w2 ⟨rfl, hb2⟩
  have hw2 : Below w.heap.size w w2 := by (repeat' (first | (with_reducible exact Below.refl _ _) | (with_reducible assumption) | (with_reducible refine Below.alloc ?_ ?_ _) | (with_reducible refine Below.drew ?_) | (with_reducible refine below_drewN ?_ _) | (with_reducible refine Below.setCell ?_ ?_ _) | (with_reducible refine chain ?_ (by assumption) ?_) | omega | (simp; done) | (simp; omega)))
  obtain ⟨hc2, hf2, _⟩ := bcell hb2; have hz2 := hb2.size; (try simp at hz2); (try have hx20 : w.heap.size < w2.heap.size := (by omega)); (try have hx21 : w.heap.size + 1 < w2.heap.size := (by omega)); (try have hx22 : w.heap.size + 1 + 1 < w2.heap.size := (by omega)); (try have hx23 : w.heap.size + 1 + 1 + 1 < w2.heap.size := (by omega))
  go_wp2_with (fail)
  refine bodyPost_ret (v := mt 0 0 none 0 0 false) (by first | (simp [results, Try.results35, go_sem, *]; done) | (simp (disch := (first | omega | (simp; done) | (simp; omega))) [results, Try.results35, go_sem, *]; done) | (simp only [results, Try.results35]; go_simp; done)) rfl ⟨rfl, ?_⟩
  (repeat' (first | (with_reducible exact Below.refl _ _) | (with_reducible assumption) | (with_reducible refine Below.alloc ?_ ?_ _) | (with_reducible refine Below.drew ?_) | (with_reducible refine below_drewN ?_ _) | (with_reducible refine Below.setCell ?_ ?_ _) | (with_reducible refine chain ?_ (by assumption) ?_) | omega | (simp; done) | (simp; omega)))

set_option maxRecDepth 100000 in
set_option maxHeartbeats 8000000 in
theorem sc_s_t {r c : Int} {g0 n cp : Nat} {xs : List D5} {x : D5} {w : World} (hA : Rd w (some ⟨g0, 0, none⟩) xs) (hn : xs.length = n) (hok : okM r c n xs = true) (hx : x.ok = true) :
    Calls Try.prog 35 #[mv r c (some ⟨g0, 0, none⟩) n cp, dy x.a x.b x.c x.d x.e] w fun ee w' => MR w w' ee r c n (tab n (scF xs x)) (anyB n (scG xs x)) := by
  obtain ⟨i0, hi0, hu0, hu1, hu2⟩ := info_parts infoD
  have hb : n ≤ 1024 := by
    obtain ⟨_, _, _, _, _, _, _, _, _, h⟩ := okM_nat hok
    exact h
  have HX := hid hx
  clear hx
  have HA := hid hA
  have HN := hid hn
  have HO := hid hok
  clear hA hn hok
  obtain ⟨F, hF⟩ : ∃ F, F = scF xs x := ⟨_, rfl⟩
  obtain ⟨G, hG⟩ : ∃ G, G = scG xs x := ⟨_, rfl⟩
  have HF := hid hF
  have HG := hid hG
  rw [← hF, ← hG]
  clear hF hG
  go_enter Try.func35, Try.ntmps35
  go_wp2_with (fail)
  refine (vm_s_t (xs := xs) HO.out ?_ HN.out).mono ?_
  · exact HA.out.mono (by (repeat' (first | (with_reducible exact Below.refl _ _) | (with_reducible assumption) | (with_reducible refine Below.alloc ?_ ?_ _) | (with_reducible refine Below.drew ?_) | (with_reducible refine below_drewN ?_ _) | (with_reducible refine Below.setCell ?_ ?_ _) | (with_reducible refine chain ?_ (by assumption) ?_) | omega | (simp; done) | (simp; omega))))
  rintro ee w1 ⟨rfl, hb1⟩
  obtain ⟨hc1, hf1, _⟩ := bcell hb1; have hz1 := hb1.size; (try simp at hz1); (try have hx10 : w.heap.size < w1.heap.size := (by omega)); (try have hx11 : w.heap.size + 1 < w1.heap.size := (by omega)); (try have hx12 : w.heap.size + 1 + 1 < w1.heap.size := (by omega)); (try have hx13 : w.heap.size + 1 + 1 + 1 < w1.heap.size := (by omega))
  have Xa1 : Hid (Bx w1 (w.heap.size) 26 #[.int .i64 r, .int .i64 c, .slice (some ⟨g0, 0, none⟩) n cp]) := by show Bx _ _ _ _; (repeat' (first | (with_reducible assumption) | (refine Bx.new (by first | (with_reducible rfl) | (simp; done))) | (with_reducible refine Bx.alloc ?_ _) | (with_reducible refine Bx.drew ?_) | (with_reducible refine Bx.drewN ?_ _) | (with_reducible refine Bx.mono ?_ (by assumption)) | (with_reducible refine Bx.badly ?_ (by assumption) (by omega)) | (with_reducible refine Bx.far ?_ (by (try simp only [World.size_alloc, World.size_drew]); omega)) | (with_reducible refine Bx.set ?_ rfl) | (with_reducible refine Bx.grown ?_ (by assumption) (by assumption))))
  have Xx1 : Hid (Bx w1 (w.heap.size + 1) 37 #[.int .i64 x.a, .int .i64 x.b, .int .i64 x.c, .int .i64 x.d, .int .i64 x.e]) := by show Bx _ _ _ _; (repeat' (first | (with_reducible assumption) | (refine Bx.new (by first | (with_reducible rfl) | (simp; done))) | (with_reducible refine Bx.alloc ?_ _) | (with_reducible refine Bx.drew ?_) | (with_reducible refine Bx.drewN ?_ _) | (with_reducible refine Bx.mono ?_ (by assumption)) | (with_reducible refine Bx.badly ?_ (by assumption) (by omega)) | (with_reducible refine Bx.far ?_ (by (try simp only [World.size_alloc, World.size_drew]); omega)) | (with_reducible refine Bx.set ?_ rfl) | (with_reducible refine Bx.grown ?_ (by assumption) (by assumption))))
  have Xz1 : Hid (Bx w1 (w.heap.size + 1 + 1) 26 #[.int .i64 0, .int .i64 0, .slice none 0 0]) := by show Bx _ _ _ _; (repeat' (first | (with_reducible assumption) | (refine Bx.new (by first | (with_reducible rfl) | (simp; done))) | (with_reducible refine Bx.alloc ?_ _) | (with_reducible refine Bx.drew ?_) | (with_reducible refine Bx.drewN ?_ _) | (with_reducible refine Bx.mono ?_ (by assumption)) | (with_reducible refine Bx.badly ?_ (by assumption) (by omega)) | (with_reducible refine Bx.far ?_ (by (try simp only [World.size_alloc, World.size_drew]); omega)) | (with_reducible refine Bx.set ?_ rfl) | (with_reducible refine Bx.grown ?_ (by assumption) (by assumption))))
  have hw1 : Below w.heap.size w w1 := by (repeat' (first | (with_reducible exact Below.refl _ _) | (with_reducible assumption) | (with_reducible refine Below.alloc ?_ ?_ _) | (with_reducible refine Below.drew ?_) | (with_reducible refine below_drewN ?_ _) | (with_reducible refine Below.setCell ?_ ?_ _) | (with_reducible refine chain ?_ (by assumption) ?_) | omega | (simp; done) | (simp; omega)))
  go_wp2_with (fail)
  refine (g2_ok _ HX.out).mono ?_
  rintro ee w2 ⟨rfl, hb2⟩
  obtain ⟨hc2, hf2, _⟩ := bcell hb2; have hz2 := hb2.size; (try simp at hz2); (try have hx20 : w.heap.size < w2.heap.size := (by omega)); (try have hx21 : w.heap.size + 1 < w2.heap.size := (by omega)); (try have hx22 : w.heap.size + 1 + 1 < w2.heap.size := (by omega)); (try have hx23 : w.heap.size + 1 + 1 + 1 < w2.heap.size := (by omega))
  have hw2 : Below w.heap.size w w2 := by (repeat' (first | (with_reducible exact Below.refl _ _) | (with_reducible assumption) | (with_reducible refine Below.alloc ?_ ?_ _) | (with_reducible refine Below.drew ?_) | (with_reducible refine below_drewN ?_ _) | (with_reducible refine Below.setCell ?_ ?_ _) | (with_reducible refine chain ?_ (by assumption) ?_) | omega | (simp; done) | (simp; omega)))
  have Xa2 := hid (Xa1.out.mono hb2)
  have Xx2 := hid (Xx1.out.mono hb2)
  have Xz2 := hid (Xz1.out.mono hb2)
  clear Xa1 Xx1 Xz1
  go_wp2_with (fail)
  go_loopg [29] n (fun q s1 wr => ∃ (j : Nat) (v : Value) (z : Bool) (zs : List D5), j + q = n ∧ s1 = .int .i64 (j : Int) ∧ Hid (Bx wr (w.heap.size) 26 #[.int .i64 r, .int .i64 c, .slice (some ⟨g0, 0, none⟩) n cp]) ∧ Hid (Bx wr (w.heap.size + 1) 37 #[.int .i64 x.a, .int .i64 x.b, .int .i64 x.c, .int .i64 x.d, .int .i64 x.e]) ∧ Hid (Bx wr (w.heap.size + 1 + 1) 26 #[.int .i64 0, .int .i64 0, .slice none 0 0]) ∧ Hid (Bx wr (w2.heap.size) 99 #[.bool z]) ∧ Hid (Bx wr (w2.heap.size + 1) 26 #[.int .i64 r, .int .i64 c, v]) ∧ Hid (Own5 wr (w2.heap.size + 1 + 1) 37 v zs) ∧ Hid (Sofar z zs j F G) ∧ w2.heap.size + 1 + 1 ≤ wr.heap.size ∧ Below w.heap.size w wr)
  case atStart =>
    have R1 := Xa2.out
    have R2 := Xx2.out
    have R3 := Xz2.out
    exact ⟨0, .slice none 0 0, false, [], by omega, rfl, (by show Bx _ _ _ _; (repeat' (first | (with_reducible assumption) | (with_reducible refine Bx.alloc ?_ _) | (with_reducible refine Bx.drew ?_) | (with_reducible refine Bx.drewN ?_ _) | (with_reducible refine Bx.mono ?_ (by assumption)) | (with_reducible refine Bx.badly ?_ (by assumption) (by omega)) | (with_reducible refine Bx.far ?_ (by (try simp only [World.size_alloc, World.size_drew]); omega)) | (with_reducible refine Bx.set ?_ rfl) | (with_reducible refine Bx.grown ?_ (by assumption) (by assumption))))), (by show Bx _ _ _ _; (repeat' (first | (with_reducible assumption) | (with_reducible refine Bx.alloc ?_ _) | (with_reducible refine Bx.drew ?_) | (with_reducible refine Bx.drewN ?_ _) | (with_reducible refine Bx.mono ?_ (by assumption)) | (with_reducible refine Bx.badly ?_ (by assumption) (by omega)) | (with_reducible refine Bx.far ?_ (by (try simp only [World.size_alloc, World.size_drew]); omega)) | (with_reducible refine Bx.set ?_ rfl) | (with_reducible refine Bx.grown ?_ (by assumption) (by assumption))))), (by show Bx _ _ _ _; (repeat' (first | (with_reducible assumption) | (with_reducible refine Bx.alloc ?_ _) | (with_reducible refine Bx.drew ?_) | (with_reducible refine Bx.drewN ?_ _) | (with_reducible refine Bx.mono ?_ (by assumption)) | (with_reducible refine Bx.badly ?_ (by assumption) (by omega)) | (with_reducible refine Bx.far ?_ (by (try simp only [World.size_alloc, World.size_drew]); omega)) | (with_reducible refine Bx.set ?_ rfl) | (with_reducible refine Bx.grown ?_ (by assumption) (by assumption))))), (by show Bx _ _ _ _; (repeat' (first | (with_reducible assumption) | (refine Bx.new (by first | (with_reducible rfl) | (simp; done))) | (with_reducible refine Bx.alloc ?_ _) | (with_reducible refine Bx.drew ?_) | (with_reducible refine Bx.drewN ?_ _) | (with_reducible refine Bx.mono ?_ (by assumption)) | (with_reducible refine Bx.badly ?_ (by assumption) (by omega)) | (with_reducible refine Bx.far ?_ (by (try simp only [World.size_alloc, World.size_drew]); omega)) | (with_reducible refine Bx.set ?_ rfl) | (with_reducible refine Bx.grown ?_ (by assumption) (by assumption))))), (by show Bx _ _ _ _; (repeat' (first | (with_reducible assumption) | (refine Bx.new (by first | (with_reducible rfl) | (simp; done))) | (with_reducible refine Bx.alloc ?_ _) | (with_reducible refine Bx.drew ?_) | (with_reducible refine Bx.drewN ?_ _) | (with_reducible refine Bx.mono ?_ (by assumption)) | (with_reducible refine Bx.badly ?_ (by assumption) (by omega)) | (with_reducible refine Bx.far ?_ (by (try simp only [World.size_alloc, World.size_drew]); omega)) | (with_reducible refine Bx.set ?_ rfl) | (with_reducible refine Bx.grown ?_ (by assumption) (by assumption))))), Own5.nil _ _ _, Sofar.start _ _, by simp, by (repeat' (first | (with_reducible exact Below.refl _ _) | (with_reducible assumption) | (with_reducible refine Below.alloc ?_ ?_ _) | (with_reducible refine Below.drew ?_) | (with_reducible refine below_drewN ?_ _) | (with_reducible refine Below.setCell ?_ ?_ _) | (with_reducible refine chain ?_ (by assumption) ?_) | omega | (simp; done) | (simp; omega)))⟩
  case round =>
    obtain ⟨j, v, z, zs, hj, rfl, Xa, Xx, Xz, Xf, Xo, HOw, HS, hsz, hB⟩ := hrel
    clear Xa2 Xx2 Xz2
    have ca0 := Xa.out.c 0 rfl
    have ca1 := Xa.out.c 1 rfl
    have ca2 := Xa.out.c 2 rfl
    have la := Xa.out.lt
    have cx0 := Xx.out.c 0 rfl
    have cx1 := Xx.out.c 1 rfl
    have cx2 := Xx.out.c 2 rfl
    have cx3 := Xx.out.c 3 rfl
    have cx4 := Xx.out.c 4 rfl
    have lx := Xx.out.lt
    have cz0 := Xz.out.c 0 rfl
    have cz1 := Xz.out.c 1 rfl
    have cz2 := Xz.out.c 2 rfl
    have lz := Xz.out.lt
    have fz := Xz.out.f
    have cf0 := Xf.out.c 0 rfl
    have lf := Xf.out.lt
    have ff := Xf.out.f
    have co0 := Xo.out.c 0 rfl
    have co1 := Xo.out.c 1 rfl
    have co2 := Xo.out.c 2 rfl
    have lo := Xo.out.lt
    have fo := Xo.out.f
    cases gk with
    | zero =>
      obtain rfl : j = n := by omega
      obtain ⟨Bo, cq, hv, hRd, hBa⟩ := HOw.out.form
      rw [HS.out.1] at hv
      subst hv
      have HBa := hid hBa
      have HRd := hid hRd
      clear hRd hBa
      have hBq := hB.size
      cases z
      · go_wp2_with (fail)
        refine (cmat_f (by first | assumption | exact cf0)).mono ?_
        rintro ee w5 ⟨rfl, hb5⟩
        have hz5 := hb5.size
        have Yz := Xz.out.mono hb5
        have dz0 := Yz.c 0 rfl
        have dz1 := Yz.c 1 rfl
        have dz2 := Yz.c 2 rfl
        have dzf := Yz.f
        have hR5 := hid (HRd.out.mono hb5)
        clear Yz
        go_wp2_with (fail)
        refine bodyPost_ret (v := mt r c Bo j cq true) (by first | (simp [results, Try.results35, go_sem, *]; done) | (simp (disch := (first | omega | (simp; done) | (simp; omega))) [results, Try.results35, go_sem, *]; done) | (simp only [results, Try.results35]; go_simp; done)) rfl ⟨fun h => ?_, fun _ => ⟨Bo, cq, rfl, ?_, fun a ha => by have := (HBa.out a ha).1; omega⟩, ?_⟩
        · rw [← HS.out.2.1] at h; cases h
        · rw [← HS.out.2.2 rfl]
          (repeat' (first | exact hR5.out | refine Rd.far ?_ (fun a ha => by have := (HBa.out a ha).1; show _ ≠ w.heap.size + 1 + 1; omega) _))
        · (repeat' (first | (with_reducible exact Below.refl _ _) | (with_reducible assumption) | (with_reducible refine Below.alloc ?_ ?_ _) | (with_reducible refine Below.drew ?_) | (with_reducible refine below_drewN ?_ _) | (with_reducible refine Below.setCell ?_ ?_ _) | (with_reducible refine chain ?_ (by assumption) ?_) | omega | (simp; done) | (simp; omega)))
      · go_wp2_with (fail)
        refine (cmat_t (by first | assumption | exact cf0)).mono ?_
        rintro ee w5 ⟨rfl, hb5⟩
        have hz5 := hb5.size
        have Yz := Xz.out.mono hb5
        have dz0 := Yz.c 0 rfl
        have dz1 := Yz.c 1 rfl
        have dz2 := Yz.c 2 rfl
        have dzf := Yz.f
        clear Yz
        go_wp2_with (fail)
        refine bodyPost_ret (v := mt 0 0 none 0 0 false) (by first | (simp [results, Try.results35, go_sem, *]; done) | (simp (disch := (first | omega | (simp; done) | (simp; omega))) [results, Try.results35, go_sem, *]; done) | (simp only [results, Try.results35]; go_simp; done)) rfl ⟨fun _ => rfl, fun h => ?_, ?_⟩
        · rw [← HS.out.2.1] at h; cases h
        · (repeat' (first | (with_reducible exact Below.refl _ _) | (with_reducible assumption) | (with_reducible refine Below.alloc ?_ ?_ _) | (with_reducible refine Below.drew ?_) | (with_reducible refine below_drewN ?_ _) | (with_reducible refine Below.setCell ?_ ?_ _) | (with_reducible refine chain ?_ (by assumption) ?_) | omega | (simp; done) | (simp; omega)))
    | succ m =>
      have hlt : j < n := by omega
      have j1 : (j : Int) < (n : Int) := by omega
      obtain ⟨y, hy⟩ : ∃ y, xs[j]? = some y := ⟨_, List.getElem?_eq_getElem (by rw [HN.out]; exact hlt)⟩
      have HE : Hid (F j = (mulS false y x).1 ∧ G j = (mulS false y x).2) := by
        show _ ∧ _
        rw [HF.out, HG.out]; unfold scF scG; rw [getD_of hy]; exact ⟨rfl, rfl⟩
      have HKy := hid (all_get (okM_iff.1 HO.out).2.2.2 hy)
      have hC := HA.out.cx hy
      have hgw := hC.lt
      obtain ⟨q0, q1, q2, q3, q4⟩ := hC.at_ (hB.block g0 hgw)
      clear hC hy
      have hl := HS.out.1
      have HL := hid hl
      clear hl
      have hvl := World.ownsRow.lt HOw.out
      have hBq := hB.size
      have nea : some (w.heap.size) ≠ v.ownBlock := fun e => by have := (hvl _ e.symm).1; omega
      have nex : some (w.heap.size + 1) ≠ v.ownBlock := fun e => by have := (hvl _ e.symm).1; omega
      have nez : some (w.heap.size + 1 + 1) ≠ v.ownBlock := fun e => by have := (hvl _ e.symm).1; omega
      have nef : some (w2.heap.size) ≠ v.ownBlock := fun e => by have := (hvl _ e.symm).1; omega
      have neo : some (w2.heap.size + 1) ≠ v.ownBlock := fun e => by have := (hvl _ e.symm).1; omega
      have ney : some wr.heap.size ≠ v.ownBlock := fun e => by have := (hvl _ e.symm).2; omega
      have HVL := hid hvl
      clear hvl
      go_wp2_with (fail)
      obtain ⟨W, hW⟩ : ∃ W : World, W = wr.alloc (.cells #[.int .i64 y.a, .int .i64 y.b, .int .i64 y.c, .int .i64 y.d, .int .i64 y.e] 37) := ⟨_, rfl⟩
      have hbW : Below wr.heap.size wr W := by rw [hW]; exact (Below.refl _ _).alloc (Nat.le_refl _) _
      have XW0 : Bx W wr.heap.size 37 #[.int .i64 y.a, .int .i64 y.b, .int .i64 y.c, .int .i64 y.d, .int .i64 y.e] := by rw [hW]; exact Bx.new rfl
      have XW := hid XW0
      have hzW : W.heap.size = wr.heap.size + 1 := by rw [hW]; simp
      have hzW1 : wr.heap.size < W.heap.size := by omega
      have hzW2 : W.heap.size ≤ wr.heap.size + 1 := by omega
      rw [← hW]
      clear hW hzW XW0
      have hBW : Below w.heap.size w W := chain hB hbW hBq
      have Ya := hid (Xa.out.mono hbW)
      have Yx := hid (Xx.out.mono hbW)
      have Yz := hid (Xz.out.mono hbW)
      have Yf := hid (Xf.out.mono hbW)
      have Yo := hid (Xo.out.mono hbW)
      have HOw2 := hid (HOw.out.mono hbW)
      clear HOw hbW q0 q1 q2 q3 q4 Xa la ca0 ca1 ca2 Xx lx cx0 cx1 cx2 cx3 cx4 Xz lz cz0 cz1 cz2 fz Xf lf cf0 ff Xo lo co0 co1 co2 fo
      have Xa := Ya
      have Xx := Yx
      have Xz := Yz
      have Xf := Yf
      have Xo := Yo
      clear Ya Yx Yz Yf Yo
      have ca0 := Xa.out.c 0 rfl
      have ca1 := Xa.out.c 1 rfl
      have ca2 := Xa.out.c 2 rfl
      have la := Xa.out.lt
      have cx0 := Xx.out.c 0 rfl
      have cx1 := Xx.out.c 1 rfl
      have cx2 := Xx.out.c 2 rfl
      have cx3 := Xx.out.c 3 rfl
      have cx4 := Xx.out.c 4 rfl
      have lx := Xx.out.lt
      have cz0 := Xz.out.c 0 rfl
      have cz1 := Xz.out.c 1 rfl
      have cz2 := Xz.out.c 2 rfl
      have lz := Xz.out.lt
      have fz := Xz.out.f
      have cf0 := Xf.out.c 0 rfl
      have lf := Xf.out.lt
      have ff := Xf.out.f
      have co0 := Xo.out.c 0 rfl
      have co1 := Xo.out.c 1 rfl
      have co2 := Xo.out.c 2 rfl
      have lo := Xo.out.lt
      have fo := Xo.out.f
      have y0 := XW.out.c 0 rfl
      have y1 := XW.out.c 1 rfl
      have y2 := XW.out.c 2 rfl
      have y3 := XW.out.c 3 rfl
      have y4 := XW.out.c 4 rfl
      have yco2 : W.drew.cell? ⟨w2.heap.size + 1, 2, none⟩ = some (v) := co2
      have yy0 : W.drew.cell? ⟨wr.heap.size, 0, none⟩ = some (.int .i64 y.a) := y0
      have yy1 : W.drew.cell? ⟨wr.heap.size, 1, none⟩ = some (.int .i64 y.b) := y1
      have yy2 : W.drew.cell? ⟨wr.heap.size, 2, none⟩ = some (.int .i64 y.c) := y2
      have yy3 : W.drew.cell? ⟨wr.heap.size, 3, none⟩ = some (.int .i64 y.d) := y3
      have yy4 : W.drew.cell? ⟨wr.heap.size, 4, none⟩ = some (.int .i64 y.e) := y4
      have ycx0 : W.drew.cell? ⟨w.heap.size + 1, 0, none⟩ = some (.int .i64 x.a) := cx0
      have ycx1 : W.drew.cell? ⟨w.heap.size + 1, 1, none⟩ = some (.int .i64 x.b) := cx1
      have ycx2 : W.drew.cell? ⟨w.heap.size + 1, 2, none⟩ = some (.int .i64 x.c) := cx2
      have ycx3 : W.drew.cell? ⟨w.heap.size + 1, 3, none⟩ = some (.int .i64 x.d) := cx3
      have ycx4 : W.drew.cell? ⟨w.heap.size + 1, 4, none⟩ = some (.int .i64 x.e) := cx4
      refine wp_region_x (fun w' => w'.cell? ⟨w2.heap.size + 1, 2, none⟩ = some (v) ∧ w'.cell? ⟨wr.heap.size, 0, none⟩ = some (.int .i64 y.a) ∧ w'.cell? ⟨wr.heap.size, 1, none⟩ = some (.int .i64 y.b) ∧ w'.cell? ⟨wr.heap.size, 2, none⟩ = some (.int .i64 y.c) ∧ w'.cell? ⟨wr.heap.size, 3, none⟩ = some (.int .i64 y.d) ∧ w'.cell? ⟨wr.heap.size, 4, none⟩ = some (.int .i64 y.e) ∧ w'.cell? ⟨w.heap.size + 1, 0, none⟩ = some (.int .i64 x.a) ∧ w'.cell? ⟨w.heap.size + 1, 1, none⟩ = some (.int .i64 x.b) ∧ w'.cell? ⟨w.heap.size + 1, 2, none⟩ = some (.int .i64 x.c) ∧ w'.cell? ⟨w.heap.size + 1, 3, none⟩ = some (.int .i64 x.d) ∧ w'.cell? ⟨w.heap.size + 1, 4, none⟩ = some (.int .i64 x.e)) 9 (by kernel_rfl) ⟨yco2, yy0, yy1, yy2, yy3, yy4, ycx0, ycx1, ycx2, ycx3, ycx4⟩ (fun hS0 => ?_)
      refine wpAnyX_take (i := 0) (oi := _) (v := ?_) rfl (by kernel_rfl) (by kernel_rfl) (by kernel_rfl) (by kernel_rfl) (fun _ _ _ h => h) (Or.inl ⟨by rfl, ?_⟩) hS0 ?_
      rotate_left 1
      · (intro w hSw; (try dsimp only at hSw); go_simp; (try with_reducible rfl))
      try simp only [Act.put, List.setIfInBounds_toArray, List.set_cons_zero, List.set_cons_succ]
      refine wpAnyX_take (i := 1) (oi := _) (v := ?_) rfl (by kernel_rfl) (by kernel_rfl) (by kernel_rfl) (by kernel_rfl) (fun _ _ _ h => h) (Or.inl ⟨by rfl, ?_⟩) hS0 ?_
      rotate_left 1
      · (intro w hSw; (try dsimp only at hSw); go_simp; (try with_reducible rfl))
      try simp only [Act.put, List.setIfInBounds_toArray, List.set_cons_zero, List.set_cons_succ]
      refine wpAnyX_take (i := 2) (oi := _) (v := ?_) rfl (by kernel_rfl) (by kernel_rfl) (by kernel_rfl) (by kernel_rfl) (fun _ _ _ h => h) (Or.inl ⟨by rfl, ?_⟩) hS0 ?_
      rotate_left 1
      · (intro w hSw; (try dsimp only at hSw); go_simp; (try with_reducible rfl))
      try simp only [Act.put, List.setIfInBounds_toArray, List.set_cons_zero, List.set_cons_succ]
      refine wpAnyX_take (i := 3) (oi := _) (v := ?_) rfl (by kernel_rfl) (by kernel_rfl) (by kernel_rfl) (by kernel_rfl) (fun _ _ _ h => h) (Or.inl ⟨by rfl, ?_⟩) hS0 ?_
      rotate_left 1
      · (intro w hSw; (try dsimp only at hSw); go_simp; (try with_reducible rfl))
      try simp only [Act.put, List.setIfInBounds_toArray, List.set_cons_zero, List.set_cons_succ]
      refine wpAnyX_take (i := 4) (oi := _) (v := ?_) rfl (by kernel_rfl) (by kernel_rfl) (by kernel_rfl) (by kernel_rfl) (fun _ _ _ h => h) (Or.inl ⟨by rfl, ?_⟩) hS0 ?_
      rotate_left 1
      · (intro w hSw; (try dsimp only at hSw); go_simp; (try with_reducible rfl))
      try simp only [Act.put, List.setIfInBounds_toArray, List.set_cons_zero, List.set_cons_succ]
      refine wpAnyX_one (i := 5) (o := _) rfl (by kernel_rfl) (fun K hK => ?_)
      go_simp
      refine (cmul (x := y) (y := x) (z := z) HKy.out HX.out (by exact cf0) (by exact ff 0)).mono ?_
      rintro ee w8 ⟨rfl, hb8⟩
      have hb9 := bad_drew hb8
      have hz8 := bad_size hb9
      refine hK.out _ _ (fun _ => ?_) (fun hS1 => ?_)
      · exact ⟨kbad hb8 (by omega) (hS0.1), kbad hb8 (by omega) (hS0.2.1), kbad hb8 (by omega) (hS0.2.2.1), kbad hb8 (by omega) (hS0.2.2.2.1), kbad hb8 (by omega) (hS0.2.2.2.2.1), kbad hb8 (by omega) (hS0.2.2.2.2.2.1), kbad hb8 (by omega) (hS0.2.2.2.2.2.2.1), kbad hb8 (by omega) (hS0.2.2.2.2.2.2.2.1), kbad hb8 (by omega) (hS0.2.2.2.2.2.2.2.2.1), kbad hb8 (by omega) (hS0.2.2.2.2.2.2.2.2.2.1), kbad hb8 (by omega) (hS0.2.2.2.2.2.2.2.2.2.2)⟩
      clear hK K
      have hS1 := hS1 (by decide)
      try simp only [Act.put, List.setIfInBounds_toArray, List.set_cons_zero, List.set_cons_succ]
      refine wpAnyX_one (i := 6) (o := _) rfl (by kernel_rfl) (fun K hK => ?_)
      go_simp
      refine hK.out _ _ (fun _ => ?_) (fun hS2 => ?_)
      · first | exact ⟨kal (hS1.1), kal (hS1.2.1), kal (hS1.2.2.1), kal (hS1.2.2.2.1), kal (hS1.2.2.2.2.1), kal (hS1.2.2.2.2.2.1), kal (hS1.2.2.2.2.2.2.1), kal (hS1.2.2.2.2.2.2.2.1), kal (hS1.2.2.2.2.2.2.2.2.1), kal (hS1.2.2.2.2.2.2.2.2.2.1), kal (hS1.2.2.2.2.2.2.2.2.2.2)⟩ | exact ⟨kald (hS1.1), kald (hS1.2.1), kald (hS1.2.2.1), kald (hS1.2.2.2.1), kald (hS1.2.2.2.2.1), kald (hS1.2.2.2.2.2.1), kald (hS1.2.2.2.2.2.2.1), kald (hS1.2.2.2.2.2.2.2.1), kald (hS1.2.2.2.2.2.2.2.2.1), kald (hS1.2.2.2.2.2.2.2.2.2.1), kald (hS1.2.2.2.2.2.2.2.2.2.2)⟩
      clear hK K
      have hS2 := hS2 (by decide)
      try simp only [Act.put, List.setIfInBounds_toArray, List.set_cons_zero, List.set_cons_succ]
      refine wpAnyX_one (i := 7) (o := _) rfl (by kernel_rfl) (fun K hK => ?_)
      refine step_append_lies _ (by rfl) _ _ _ (by rfl) (w2.heap.size + 1 + 1) 37 i0 _ 5 40 Try.underlying24 hi0 hu0 hu1 hu2 rfl (by omega) v j (csL zs) (by rfl) (World.ownsRow.alloc (by have := HOw2.out.badly hb9 (by omega); unfold Own5 at this; rw [HL.out] at this; exact this) _) ⟨w8.heap.size, 0, none⟩ 1 1 (mulS z y x).1.cs (by rfl) (by rfl) (World.news_of_block (cs := (mulS z y x).1.cs.toArray) (t := 37) (fr := (0, 0)) (heap_alloc_new _ _)) (by simp [D5.cs, Value.oneCell']) (by omega) (append_ok (by omega)).1 (append_ok (by omega)).2 (by simp; omega) (w8.heap.size + 1) (by simp) ?_
      intro gg cap w9 hown9 hgrow9 hat9 hlt9
      refine hK.out _ _ (fun _ => ?_) (fun hS3 => ?_)
      · exact ⟨hgrow9.cell (hS2.1) neo, hgrow9.cell (hS2.2.1) ney, hgrow9.cell (hS2.2.2.1) ney, hgrow9.cell (hS2.2.2.2.1) ney, hgrow9.cell (hS2.2.2.2.2.1) ney, hgrow9.cell (hS2.2.2.2.2.2.1) ney, hgrow9.cell (hS2.2.2.2.2.2.2.1) nex, hgrow9.cell (hS2.2.2.2.2.2.2.2.1) nex, hgrow9.cell (hS2.2.2.2.2.2.2.2.2.1) nex, hgrow9.cell (hS2.2.2.2.2.2.2.2.2.2.1) nex, hgrow9.cell (hS2.2.2.2.2.2.2.2.2.2.2) nex⟩
      clear hK K
      have hS3 := hS3 (by decide)
      try simp only [Act.put, List.setIfInBounds_toArray, List.set_cons_zero, List.set_cons_succ]
      refine wpAnyX_take (i := 8) (oi := _) (v := ?_) rfl (by kernel_rfl) (by kernel_rfl) (by kernel_rfl) (by kernel_rfl) (fun _ _ _ h => h) (Or.inl ⟨by rfl, ?_⟩) hS3 ?_
      rotate_left 1
      · (intro w hSw; (try dsimp only at hSw); go_simp; (try with_reducible rfl))
      try simp only [Act.put, List.setIfInBounds_toArray, List.set_cons_zero, List.set_cons_succ]
      refine wpAnyX_one (i := 9) (o := _) rfl (by kernel_rfl) (fun K hK => ?_)
      have Yo := (Bx.alloc (Xo.out.badly hb9 (by omega)) _).grown hgrow9 neo
      have yo2 := Yo.c 2 rfl
      have yof := Yo.f 2
      go_simp
      refine hK.out _ _ (fun h => absurd rfl h) (fun _ => ?_)
      clear hK K
      try simp only [Act.put, List.setIfInBounds_toArray, List.set_cons_zero, List.set_cons_succ]
      refine wpAnyX_done (by kernel_rfl) ?_ _
      go_wp2_with (fail)
      go_roundg m
      case measure => omega
      case rel =>
        have hz9 := hgrow9.size
        simp only [World.size_alloc] at hz9
        have Ya := (Bx.alloc (Xa.out.badly hb9 (by omega)) _).grown hgrow9 nea
        have Yx := (Bx.alloc (Xx.out.badly hb9 (by omega)) _).grown hgrow9 nex
        have Yz := (Bx.alloc (Xz.out.badly hb9 (by omega)) _).grown hgrow9 nez
        have Yf := (Bx.alloc (Xf.out.bad hb9) _).grown hgrow9 nef
        refine ⟨j + 1, .slice (some ⟨gg, 0, none⟩) (j + 1) cap, (mulS z y x).2, zs ++ [(mulS z y x).1], by omega, by go_num, Ya.far (by omega), Yx.far (by omega), Yz.far (by omega), Yf.far (by omega), Yo.set rfl, ?_, ?_, by (try simp only [World.size_setCell]); omega, ?_⟩
        · show Own5 _ _ _ _ _
          exact (Own5.snoc HL.out hown9).far (by show w2.heap.size + 1 < _; omega) _
        · exact HS.out.next (fun h => by rw [h, HE.out.1, HE.out.2]) (fun h => by rw [h]; exact mulS_t)
        · refine Below.setCell ?_ (by show w.heap.size ≤ w2.heap.size + 1; omega) _
          refine Below.grown ((bad_below hBW hb9 (by omega)).alloc (by omega) _) hgrow9 (by simp only [World.size_alloc]; omega) (fun q e => by have := (HVL.out _ e).1; omega)

end Go.Proofs.Ytncgccpkbneagaa
