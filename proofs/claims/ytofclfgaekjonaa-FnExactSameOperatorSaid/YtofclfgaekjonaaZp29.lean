/- Oc -/
import Derived.Test.YtofclfgaekjonaaZp24
import Derived.Test.YtofclfgaekjonaaZp28
import Derived.Test.YtofclfgaekjonaaZp22
namespace Go.Proofs.Ytofclfgaekjonaa
open Go.RowKit RM
set_option linter.unusedVariables false
set_option linter.unusedSimpArgs false
attribute [local irreducible] World.setCell

open GM
theorem vg_nat {n : Nat} {g : C4.GateV} (h : C4.vgB (n : Int) g = true) : okG n g.f0.toNat g.f1.toNat g.f2.toNat ∧ g = ⟨(g.f0.toNat : Int), (g.f1.toNat : Int), (g.f2.toNat : Int)⟩ := by
  obtain ⟨m, kd, A, B, h1, rfl, hok⟩ := vg_ok h
  obtain rfl : n = m := by omega
  exact ⟨hok, rfl⟩
theorem gm_g {n D NN : Nat} {g : C4.GateV} {w : World} (hv : C4.vgB (n : Int) g = true) (hD : D = 2 ^ n) (hNN : NN = D * D) :
    Calls Try.prog 163 #[.int .i64 (n : Int), g.v] w fun ee w' => ∃ b : Nat, ee = .returned (mt (D : Int) (D : Int) (some ⟨b, 0, none⟩) NN NN true) ∧ Bk w' b 99 (gmt n D g) ∧ w.heap.size ≤ b ∧ Below w.heap.size w w' := by
  obtain ⟨hok, hg⟩ := vg_nat hv
  rw [hg] at hv
  have h := gm_any (w := w) hok hv hD hNN
  rw [hNN] at h ⊢
  rw [hg]
  exact h
theorem lg_g {n D NN : Nat} {g : C4.GateV} {w : World} (hv : C4.vgB (n : Int) g = true) (hD : D = 2 ^ n) (hNN : NN = D * D) :
    Calls Try.prog 160 #[.int .i64 (n : Int), g.v] w fun ee w' => ∃ b cq : Nat, ee = .returned (mv (D : Int) (D : Int) (some ⟨b, 0, none⟩) NN cq) ∧ Rd w' (some ⟨b, 0, none⟩) (gmt n D g) ∧ w.heap.size ≤ b ∧ Below w.heap.size w w' := by
  obtain ⟨hok, hg⟩ := vg_nat hv
  have h := lgate2 (w := w) hok hD hNN
  rw [hNN] at h ⊢
  rw [hg]
  exact h
/-- what the applied gates answer -/
def AG (w w' : World) (ee : Ending) (D C N h0 : Nat) (r : Option (List D5)) : Prop :=
  (r = none → ee = .returned (mt 0 0 none 0 0 false)) ∧ (∀ zs, r = some zs → ∃ h : Nat, ee = .returned (mt (D : Int) (C : Int) (some ⟨h, 0, none⟩) N N true) ∧ Bk w' h 99 zs ∧ (h = h0 ∨ w.heap.size ≤ h)) ∧ Below w.heap.size w w'

theorem kcB {B b o : Nat} {w w' : World} {v : Value} (hb : Below B w w') (h : b < B) (hc : w.cell? ⟨b, o, none⟩ = some v) : w'.cell? ⟨b, o, none⟩ = some v := (hb.cell (p := ⟨b, o, none⟩) h).trans hc
set_option maxRecDepth 100000 in
set_option maxHeartbeats 8000000 in
theorem ag_i {n D C N m c1 h0 : Nat} {A : Option Addr} {gs : List C4.GateV} {xs : List D5} {w : World} (hA : C4.Rd C4.gateE w A gs) (hm : gs.length = m) (hm4 : m ≤ 400) (hG : ∀ (i : Nat) (g : C4.GateV), gs[i]? = some g → C4.vgB (n : Int) g = true) (h1 : 1 ≤ n) (h5 : n ≤ 5) (hD : D = 2 ^ n) (hC : dimB (C : Int) = true) (hN : N = D * C) (hX : Bk w h0 99 xs) (hx : xs.length = N) (hok : okM (D : Int) (C : Int) N xs = true) :
    Calls Try.prog 120 #[C4.circuitV (n : Int) A m c1, mv (D : Int) (C : Int) (some ⟨h0, 0, none⟩) N N] w fun ee w' => AG w w' ee D C N h0 (apl n D C gs xs) := by
  obtain ⟨d2, d32, dw, dw2, dd⟩ := pow_dim h1 h5 hD
  have c32 : 1 ≤ C ∧ C ≤ 32 := by have := dimB_cases hC; omega
  have n10 : N ≤ 1024 := by rw [hN]; exact Nat.mul_le_mul d32 c32.2
  have hh0 : h0 < w.heap.size := hX.lt
  have HA := hid hA
  have HM := hid hm
  have HG := hid hG
  have HD := hid hD
  have HC := hid hC
  have EN := hid hN
  have HX := hid hX
  have HX2 := hid (And.intro hok hx)
  have DD := hid dd
  have hm5 : (m : Int) ≤ 400 := by omega
  clear hA hm hG hD hC hN hX hx hok dd
  go_enter Try.func120, Try.ntmps120
  go_wp2_with (fail)
  go_loopg [15] m (fun q s1 wr => ∃ (j h : Nat) (ys : List D5), j + q = m ∧ s1 = .int .i64 (j : Int) ∧ Hid (Bx wr (w.heap.size) 42 #[.int .i64 (n : Int), .slice A m c1]) ∧ Hid (Bx wr (w.heap.size + 1) 30 #[.int .i64 (D : Int), .int .i64 (C : Int), .slice (some ⟨h, 0, none⟩) N N]) ∧ Hid (Bx wr (w.heap.size + 1 + 1) 30 #[.int .i64 0, .int .i64 0, .slice none 0 0]) ∧ Hid (Bk wr h 99 ys) ∧ Hid (apl n D C (gs.take j) xs = some ys) ∧ Hid (okM (D : Int) (C : Int) N ys = true ∧ ys.length = N) ∧ Hid (h = h0 ∨ w.heap.size ≤ h) ∧ (h < w.heap.size ∨ w.heap.size + 1 + 1 < h) ∧ w.heap.size + 1 + 1 + 1 ≤ wr.heap.size ∧ Below w.heap.size w wr)
  case atStart =>
    exact ⟨0, h0, xs, by omega, rfl, (by show Bx _ _ _ _; (repeat' (first | (with_reducible assumption) | (refine Bx.new (by first | (with_reducible rfl) | (simp; done))) | (with_reducible refine Bx.alloc ?_ _) | (with_reducible refine Bx.drew ?_) | (with_reducible refine Bx.drewN ?_ _) | (with_reducible refine Bx.mono ?_ (by assumption)) | (with_reducible refine Bx.badly ?_ (by assumption) (by omega)) | (with_reducible refine Bx.far ?_ (by (try simp only [World.size_alloc, World.size_drew]); omega)) | (with_reducible refine Bx.set ?_ rfl) | (with_reducible refine Bx.grown ?_ (by assumption) (by assumption))))), (by show Bx _ _ _ _; (repeat' (first | (with_reducible assumption) | (refine Bx.new (by first | (with_reducible rfl) | (simp; done))) | (with_reducible refine Bx.alloc ?_ _) | (with_reducible refine Bx.drew ?_) | (with_reducible refine Bx.drewN ?_ _) | (with_reducible refine Bx.mono ?_ (by assumption)) | (with_reducible refine Bx.badly ?_ (by assumption) (by omega)) | (with_reducible refine Bx.far ?_ (by (try simp only [World.size_alloc, World.size_drew]); omega)) | (with_reducible refine Bx.set ?_ rfl) | (with_reducible refine Bx.grown ?_ (by assumption) (by assumption))))), (by show Bx _ _ _ _; (repeat' (first | (with_reducible assumption) | (refine Bx.new (by first | (with_reducible rfl) | (simp; done))) | (with_reducible refine Bx.alloc ?_ _) | (with_reducible refine Bx.drew ?_) | (with_reducible refine Bx.drewN ?_ _) | (with_reducible refine Bx.mono ?_ (by assumption)) | (with_reducible refine Bx.badly ?_ (by assumption) (by omega)) | (with_reducible refine Bx.far ?_ (by (try simp only [World.size_alloc, World.size_drew]); omega)) | (with_reducible refine Bx.set ?_ rfl) | (with_reducible refine Bx.grown ?_ (by assumption) (by assumption))))), by show Bk _ _ _ _; exact (((HX.out.alloc _).alloc _).alloc _), by show _ = _; rfl, HX2, Or.inl rfl, Or.inl hh0, by simp, by (repeat' (first | (with_reducible exact Below.refl _ _) | (with_reducible assumption) | (with_reducible refine Below.alloc ?_ ?_ _) | (with_reducible refine Below.drew ?_) | (with_reducible refine below_drewN ?_ _) | (with_reducible refine Below.setCell ?_ ?_ _) | (with_reducible refine chain ?_ (by assumption) ?_) | omega | (simp; done) | (simp; omega)))⟩
  case round =>
    obtain ⟨j, h, ys, hj, rfl, Xc, Xm, Xz, HB0, HAP, HY, HH, hh, hsz, hB⟩ := hrel
    have cc0 := Xc.out.c 0 rfl
    have cc1 := Xc.out.c 1 rfl
    have lc := Xc.out.lt
    have cm0 := Xm.out.c 0 rfl
    have cm1 := Xm.out.c 1 rfl
    have cm2 := Xm.out.c 2 rfl
    have lm := Xm.out.lt
    have fm := Xm.out.f
    have cz0 := Xz.out.c 0 rfl
    have cz1 := Xz.out.c 1 rfl
    have cz2 := Xz.out.c 2 rfl
    have lz := Xz.out.lt
    have fz := Xz.out.f
    have hBq := hB.size
    cases gk with
    | zero =>
      obtain rfl : j = m := by omega
      have e := HAP.out
      rw [List.take_of_length_le (by rw [HM.out]; exact Nat.le_refl _)] at e
      have HE := hid e
      clear e
      go_wp2_with (fail)
      refine bodyPost_ret (v := mt (D : Int) (C : Int) (some ⟨h, 0, none⟩) N N true) (by first | (simp [results, Try.results120, go_sem, *]; done) | (simp (disch := (first | omega | (simp; done) | (simp; omega))) [results, Try.results120, go_sem, *]; done) | (simp only [results, Try.results120]; go_simp; done)) rfl ⟨fun k => ?_, fun zs k => ?_, ?_⟩
      · rw [HE.out] at k; cases k
      · rw [HE.out] at k
        obtain rfl := Option.some.inj k
        refine ⟨h, rfl, ?_, HH.out⟩
        (repeat' (first | exact HB0.out | refine Bk.far ?_ (by show h ≠ w.heap.size + 1 + 1; omega) _))
      · (repeat' (first | (with_reducible exact Below.refl _ _) | (with_reducible assumption) | (with_reducible refine Below.alloc ?_ ?_ _) | (with_reducible refine Below.drew ?_) | (with_reducible refine below_drewN ?_ _) | (with_reducible refine Below.setCell ?_ ?_ _) | (with_reducible refine chain ?_ (by assumption) ?_) | omega | (simp; done) | (simp; omega)))
    | succ m9 =>
      have hlt : j < m := by omega
      have j1 : (j : Int) < (m : Int) := by omega
      obtain ⟨g, hg⟩ : ∃ g, gs[j]? = some g := ⟨_, List.getElem?_eq_getElem (by rw [HM.out]; exact hlt)⟩
      have hv := HG.out j g hg
      obtain ⟨ga, go, rfl, hga, q0, q1, q2⟩ := C4.Rd.atGate HA.out hg
      have z0 := kcB hB hga q0
      have z1 := kcB hB hga q1
      have z2 := kcB hB hga q2
      have HGJ := hid hg
      have HV := hid hv
      clear hg hv q0 q1 q2
      go_wp2_with (fail)
      refine (gm_g (D := D) (NN := D * D) HV.out HD.out rfl).mono ?_
      rintro ee w8 ⟨gb, rfl, hK8, hg8, hb8⟩
      have hz8 := hb8.size
      (try simp only [World.size_alloc] at hz8 hg8)
      have hb8' : Below wr.heap.size wr w8 := by (repeat' (first | (with_reducible exact Below.refl _ _) | (with_reducible assumption) | (with_reducible refine Below.alloc ?_ ?_ _) | (with_reducible refine Below.drew ?_) | (with_reducible refine below_drewN ?_ _) | (with_reducible refine Below.setCell ?_ ?_ _) | (with_reducible refine chain ?_ (by assumption) ?_) | omega | (simp; done) | (simp; omega)))
      have hB8 : Below w.heap.size w w8 := chain hB hb8' hBq
      have Yc := hid (Xc.out.mono hb8')
      have Ym := hid (Xm.out.mono hb8')
      have Yz := hid (Xz.out.mono hb8')
      have YB := hid (HB0.out.mono hb8')
      have HK8 := hid hK8
      clear hK8 hb8 Xc lc cc0 cc1 Xm lm cm0 cm1 cm2 Xz lz cz0 cz1 cz2 fm fz HB0 z0 z1 z2
      obtain ⟨Xc, Xm, Xz, HB0⟩ : _ ∧ _ ∧ _ ∧ _ := ⟨Yc, Ym, Yz, YB⟩
      clear Yc Ym Yz YB
      have cc0 := Xc.out.c 0 rfl
      have cc1 := Xc.out.c 1 rfl
      have lc := Xc.out.lt
      have cm0 := Xm.out.c 0 rfl
      have cm1 := Xm.out.c 1 rfl
      have cm2 := Xm.out.c 2 rfl
      have lm := Xm.out.lt
      have fm := Xm.out.f
      have cz0 := Xz.out.c 0 rfl
      have cz1 := Xz.out.c 1 rfl
      have cz2 := Xz.out.c 2 rfl
      have lz := Xz.out.lt
      have fz := Xz.out.f
      go_wp2_with (fail)
      refine (mu_i_t (ra := D) (ca := D) (cb := C) (g0 := gb) (h0 := h) (n := D * D) (m := N) (cp := D * D) (cp' := N) (N := N) (xs := gmt n D g) (ys := ys) ?_ ?_ (tab_len _ _) HY.out.2 (gmt_okM DD.out (vg_nat HV.out).1) HY.out.1 EN.out (Nat.le_refl _) (by have := Nat.mul_le_mul d32 d32; omega) (Nat.le_refl _) (by omega)).mono ?_
      · exact HK8.out.rd.mono (by (repeat' (first | (with_reducible exact Below.refl _ _) | (with_reducible assumption) | (with_reducible refine Below.alloc ?_ ?_ _) | (with_reducible refine Below.drew ?_) | (with_reducible refine below_drewN ?_ _) | (with_reducible refine Below.setCell ?_ ?_ _) | (with_reducible refine chain ?_ (by assumption) ?_) | omega | (simp; done) | (simp; omega))))
      · exact HB0.out.rd.mono (by (repeat' (first | (with_reducible exact Below.refl _ _) | (with_reducible assumption) | (with_reducible refine Below.alloc ?_ ?_ _) | (with_reducible refine Below.drew ?_) | (with_reducible refine below_drewN ?_ _) | (with_reducible refine Below.setCell ?_ ?_ _) | (with_reducible refine chain ?_ (by assumption) ?_) | omega | (simp; done) | (simp; omega))))
      rintro ee w9 ⟨r1, r2, hb9⟩
      have hz9 := hb9.size
      (try simp only [World.size_alloc] at hz9)
      have hb9' : Below w8.heap.size w8 w9 := chain ((Below.refl _ _).alloc (Nat.le_refl _) _) hb9 (by simp)
      have hB9 : Below w.heap.size w w9 := chain hB8 hb9' hB8.size
      have Yc := hid (Xc.out.mono hb9')
      have Ym := hid (Xm.out.mono hb9')
      have Yz := hid (Xz.out.mono hb9')
      clear Xc lc cc0 cc1 Xm lm cm0 cm1 cm2 Xz lz cz0 cz1 cz2 fm fz HB0
      obtain ⟨Xc, Xm, Xz⟩ : _ ∧ _ ∧ _ := ⟨Yc, Ym, Yz⟩
      clear Yc Ym Yz
      have cc0 := Xc.out.c 0 rfl
      have cc1 := Xc.out.c 1 rfl
      have lc := Xc.out.lt
      have cm0 := Xm.out.c 0 rfl
      have cm1 := Xm.out.c 1 rfl
      have cm2 := Xm.out.c 2 rfl
      have lm := Xm.out.lt
      have fm := Xm.out.f
      have cz0 := Xz.out.c 0 rfl
      have cz1 := Xz.out.c 1 rfl
      have cz2 := Xz.out.c 2 rfl
      have lz := Xz.out.lt
      have fz := Xz.out.f
      have hst := apl_take HGJ.out HAP.out
      have HST := hid hst
      clear hst
      cases hq : anyB N (mmG D C (gmt n D g) ys)
      · obtain ⟨g', rfl, hK9, hg9⟩ := r2 hq
        (try simp only [World.size_alloc] at hg9)
        have e : stB n D C g ys = false := by unfold stB; rw [← EN.out]; exact hq
        have HE := hid e
        have HK9 := hid hK9
        have ef : tab N (mmF D C (gmt n D g) ys) = stF n D C g ys := by unfold stF; rw [EN.out]
        have EF9 := hid ef
        have hl9 := hK9.lt
        clear r1 r2 hq hK9 e ef hb9
        go_wp2_with (fail)
        go_roundg m9
        case measure => omega
        case rel =>
          have R1 := Xc.out
          have R2 := Xm.out
          have R3 := Xz.out
          refine ⟨j + 1, g', stF n D C g ys, by omega, by go_num, ?_, ?_, ?_, ?_, ?_, ?_, Or.inr (by omega), Or.inr (by omega), by (try simp only [World.size_alloc, World.size_setCell]); omega, ?_⟩
          · show Bx _ _ _ _
            (repeat' (first | (with_reducible exact R1) | (with_reducible refine Bx.far ?_ (by omega)) | (with_reducible refine Bx.alloc ?_ _)))
          · show Bx _ _ _ _
            exact Bx.alloc (Bx.set (i := 2) (u := .slice (some ⟨g', 0, none⟩) N N) (Bx.set (i := 1) (u := .int .i64 (C : Int)) (Bx.set (i := 0) (u := .int .i64 (D : Int)) R2 rfl) rfl) rfl) _
          · show Bx _ _ _ _
            (repeat' (first | (with_reducible exact R3) | (with_reducible refine Bx.far ?_ (by omega)) | (with_reducible refine Bx.alloc ?_ _)))
          · show Bk _ _ _ _
            rw [← EF9.out]
            (repeat' (first | exact HK9.out | refine Bk.alloc ?_ _ | refine Bk.far ?_ (by show g' ≠ w.heap.size + 1; omega) _))
          · show _ = _
            rw [HST.out, HE.out]; rfl
          · show _ ∧ _
            rw [EN.out]
            exact ⟨stF_okM DD.out HC.out (vg_nat HV.out).1 (okM_iff.1 HY.out.1).2.2.2, stF_len⟩
          · (repeat' (first | (with_reducible assumption) | refine Below.setCell ?_ (by show w.heap.size ≤ w.heap.size + 1; omega) _ | refine Below.alloc ?_ (by (try simp only [World.size_setCell]); omega) _))
      · obtain rfl := r1 hq
        have e : stB n D C g ys = true := by unfold stB; rw [← EN.out]; exact hq
        have e2 : apl n D C gs xs = none := by
          refine apl_none (j := j + 1) ?_
          rw [HST.out, e]; rfl
        have HE := hid e2
        clear r1 r2 hq e e2 hb9
        go_wp2_with (fail)
        refine bodyPost_ret (v := mt 0 0 none 0 0 false) (by first | (simp [results, Try.results120, go_sem, *]; done) | (simp (disch := (first | omega | (simp; done) | (simp; omega))) [results, Try.results120, go_sem, *]; done) | (simp only [results, Try.results120]; go_simp; done)) rfl ⟨fun _ => rfl, fun zs k => ?_, ?_⟩
        · rw [HE.out] at k; cases k
        · (repeat' (first | (with_reducible exact Below.refl _ _) | (with_reducible assumption) | (with_reducible refine Below.alloc ?_ ?_ _) | (with_reducible refine Below.drew ?_) | (with_reducible refine below_drewN ?_ _) | (with_reducible refine Below.setCell ?_ ?_ _) | (with_reducible refine chain ?_ (by assumption) ?_) | omega | (simp; done) | (simp; omega)))

end Go.Proofs.Ytofclfgaekjonaa
