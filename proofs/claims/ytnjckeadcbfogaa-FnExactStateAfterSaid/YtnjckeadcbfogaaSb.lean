/- StateAfter: the program. -/
import Derived.Test.YtnjckeadcbfogaaSa
import Derived.Test.YtnjckeadcbfogaaZp35
namespace Go.Proofs.Ytnjckeadcbfogaa
open Go.RowKit RM
set_option linter.unusedVariables false
set_option linter.unusedSimpArgs false
attribute [local irreducible] World.setCell

open GM
theorem stA_len {n s : Nat} {gs : List C4.GateV} {zs : List D5} (h : stA n s gs = some zs) : zs.length = 2 ^ n := by
  have := apl_len gs _ zs h (by rw [basL_len, Nat.mul_one])
  rw [this, Nat.mul_one]
theorem omp0 {w : World} : Calls Try.prog 101 #[.int .i64 0] w fun ee w' => ee = .returned (dy 1 0 0 0 0) ∧ Below w.heap.size w w' := omp (k := 0) (m := 0) (by decide) (by decide) (by decide) (by decide)
theorem zm1 {r : Nat} {w : World} (hb : r ≤ 1024) :
    Calls Try.prog 100 #[.int .i64 (r : Int), .int .i64 1] w fun ee w' => ∃ g : Nat, ee = .returned (mv (r : Int) 1 (some ⟨g, 0, none⟩) r r) ∧ Bk w' g 59 (List.replicate r z5) ∧ w.heap.size ≤ g ∧ Below w.heap.size w w' :=
  (zm (r := r) (c := 1) (n := r) (w := w) (by simp) hb).mono fun ee w' ⟨g, e, h⟩ => ⟨g, e, h⟩
theorem ag1 {n D m c1 h0 : Nat} {A : Option Addr} {gs : List C4.GateV} {xs : List D5} {w : World} (hA : C4.Rd C4.gateE w A gs) (hm : gs.length = m) (hm4 : m ≤ 400) (hG : ∀ (i : Nat) (g : C4.GateV), gs[i]? = some g → C4.vgB (n : Int) g = true) (h1 : 1 ≤ n) (h5 : n ≤ 5) (hD : D = 2 ^ n) (hX : Bk w h0 59 xs) (hx : xs.length = D) (hok : okM (D : Int) ((1 : Nat) : Int) D xs = true) :
    Calls Try.prog 94 #[C4.circuitV (n : Int) A m c1, mv (D : Int) 1 (some ⟨h0, 0, none⟩) D D] w fun ee w' => (apl n D 1 gs xs = none → ee = .returned (mt 0 0 none 0 0 false)) ∧ (∀ zs, apl n D 1 gs xs = some zs → ∃ h : Nat, ee = .returned (mt (D : Int) 1 (some ⟨h, 0, none⟩) D D true) ∧ Bk w' h 59 zs ∧ (h = h0 ∨ w.heap.size ≤ h)) ∧ Below w.heap.size w w' :=
  (ag_i (C := 1) (N := D) hA hm hm4 hG h1 h5 hD (by decide) (Nat.mul_one D).symm hX hx hok).mono fun ee w' h => h
theorem lrun1 {n D m c1 h0 o0 cp0 gc : Nat} {A : Option Addr} {gs : List C4.GateV} {xs : List D5} {w : World} (hA : C4.Rd C4.gateE w A gs) (hAg : ∀ a, A = some a → a.block ≠ gc) (hm : gs.length = m) (hm4 : m ≤ 400) (hG : ∀ (i : Nat) (g : C4.GateV), gs[i]? = some g → C4.vgB (n : Int) g = true) (h1 : 1 ≤ n) (h5 : n ≤ 5) (hD : D = 2 ^ n) (hX : Rd w (some ⟨h0, o0, none⟩) xs) (hh : h0 ≠ gc) (hhw : h0 < w.heap.size) (hx : xs.length = D) (hok : okM (D : Int) ((1 : Nat) : Int) D xs = true) (hc0 : Bx w gc 95 #[.bool false]) :
    Calls Try.prog 91 #[.pointer (some ⟨gc, 0, none⟩), C4.circuitV (n : Int) A m c1, mv (D : Int) 1 (some ⟨h0, o0, none⟩) D cp0] w fun ee w' => ∃ (z : Bool) (zs : List D5) (h o cq : Nat), ee = .returned (mv (D : Int) 1 (some ⟨h, o, none⟩) D cq) ∧ zs.length = D ∧ (z = false → apl n D 1 gs xs = some zs) ∧ (z = true → apl n D 1 gs xs = none) ∧ Rd w' (some ⟨h, o, none⟩) zs ∧ (h = h0 ∨ w.heap.size ≤ h) ∧ Below w.heap.size (w.setCell ⟨gc, 0, none⟩ (.bool z)) w' :=
  (lrun (C := 1) (N := D) hA hAg hm hm4 hG h1 h5 hD (by decide) (Nat.mul_one D).symm hX hh hhw hx hok hc0).mono fun ee w' h => h

set_option maxRecDepth 100000 in
set_option maxHeartbeats 8000000 in
theorem sa_i_t {s n m c1 : Nat} {A : Option Addr} {gs : List C4.GateV} {w : World} (hA : C4.Rd C4.gateE w A gs) (hm : gs.length = m) (hok : C4.okC (n : Int) m gs = true) (hs : s < 2 ^ n) :
    Calls Try.prog 37 #[C4.circuitV (n : Int) A m c1, .int .i64 (s : Int)] w fun ee w' => (stA n s gs = none → ee = .returned (mt 0 0 none 0 0 false)) ∧ (∀ zs, stA n s gs = some zs → ∃ h : Nat, ee = .returned (mt ((2 ^ n : Nat) : Int) 1 (some ⟨h, 0, none⟩) (2 ^ n) (2 ^ n) true) ∧ Bk w' h 59 zs ∧ w.heap.size ≤ h) ∧ Below w.heap.size w w' := by
  obtain ⟨n', hn', h1, h5, hm4, hG⟩ := okC_nat hok
  obtain rfl : n = n' := by omega
  obtain ⟨D, hD⟩ : ∃ D, D = 2 ^ n := ⟨_, rfl⟩
  obtain ⟨d2, d32, dw, dw2, dd⟩ := pow_dim h1 h5 hD
  obtain ⟨NN, hNN⟩ : ∃ NN, NN = D * D := ⟨_, rfl⟩
  have nn5 : NN ≤ 1024 := by rw [hNN]; exact Nat.mul_le_mul d32 d32
  have hr : ∀ s : Nat, stA n s gs = apl n D 1 gs (basL D s) := by intro s; unfold stA; rw [hD]
  rw [hr, ← hD]
  rw [← hD] at hs
  have j1 : (s : Int) < (D : Int) := by clear hD dw dw2 hok; omega
  have j2 : (s : Int) ≤ (D : Int) - 1 := by clear hD dw dw2 hok; omega
  have hmx : m ≤ maxLen := by unfold maxLen; omega
  have n5 : (n : Int) ≤ 5 := by omega
  have HA := hid hA
  have HM := hid hm
  have HO := hid hok
  have HX := hid hmx
  have EQ := hid hNN
  have DD := hid dd
  have HG := hid hG
  have hs3 : wrap64 ((D : Int) - 1) = (D : Int) - 1 := IntWalk.wrap64_in _ (by clear dw dw2 hD; omega)
  have hs4 : IntKind.i64.wrap ((D : Int) - 1) = (D : Int) - 1 := IntWalk.i64_in _ (by clear dw dw2 hD; omega)
  have hs2 : wrap64 (2 ^ min (IntKind.u64.wrap (n : Int)).toNat 64) = (D : Int) := by
    have hu : IntKind.u64.wrap (n : Int) = (n : Int) := by
      have : n = 1 ∨ n = 2 ∨ n = 3 ∨ n = 4 ∨ n = 5 := by omega
      rcases this with rfl | rfl | rfl | rfl | rfl <;> rfl
    rw [hu, Int.toNat_natCast, Nat.min_eq_left (by omega)]
    exact dw
  have hsh : IntKind.i64.wrap (2 ^ min (IntKind.u64.wrap (n : Int)).toNat 64) = (D : Int) := by
    have hu : IntKind.u64.wrap (n : Int) = (n : Int) := by
      have : n = 1 ∨ n = 2 ∨ n = 3 ∨ n = 4 ∨ n = 5 := by omega
      rcases this with rfl | rfl | rfl | rfl | rfl <;> rfl
    rw [hu, Int.toNat_natCast, Nat.min_eq_left (by omega)]
    exact dw2
  have HD := hid hD
  have HB := hid (basL_eq hs)
  clear hA hm hok hmx hD hNN dd hG hn' hr
  go_enter Try.func37, Try.ntmps37
  go_wp2_with (fail)
  refine (C4.vci HO.out ?_ HM.out HX.out).mono ?_
  · exact HA.out.mono (by (repeat' (first | (with_reducible exact Below.refl _ _) | (with_reducible assumption) | (with_reducible refine Below.alloc ?_ ?_ _) | (with_reducible refine Below.drew ?_) | (with_reducible refine below_drewN ?_ _) | (with_reducible refine Below.setCell ?_ ?_ _) | (with_reducible refine chain ?_ (by assumption) ?_) | omega | (simp; done) | (simp; omega))))
  rintro ee w1 ⟨rfl, hb1⟩
  have Xc1 : Bx w1 (w.heap.size) 45 #[.int .i64 (n : Int), .slice A m c1] := by (repeat' (first | (with_reducible assumption) | (refine Bx.new (by first | (with_reducible rfl) | (simp; done))) | (with_reducible refine Bx.alloc ?_ _) | (with_reducible refine Bx.drew ?_) | (with_reducible refine Bx.drewN ?_ _) | (with_reducible refine Bx.mono ?_ (by assumption)) | (with_reducible refine Bx.badly ?_ (by assumption) (by omega)) | (with_reducible refine Bx.far ?_ (by (try simp only [World.size_alloc, World.size_drew]); omega)) | (with_reducible refine Bx.set ?_ rfl) | (with_reducible refine Bx.grown ?_ (by assumption) (by assumption))))
  have Xz1 : Bx w1 (w.heap.size + 1) 28 #[.int .i64 0, .int .i64 0, .slice none 0 0] := by (repeat' (first | (with_reducible assumption) | (refine Bx.new (by first | (with_reducible rfl) | (simp; done))) | (with_reducible refine Bx.alloc ?_ _) | (with_reducible refine Bx.drew ?_) | (with_reducible refine Bx.drewN ?_ _) | (with_reducible refine Bx.mono ?_ (by assumption)) | (with_reducible refine Bx.badly ?_ (by assumption) (by omega)) | (with_reducible refine Bx.far ?_ (by (try simp only [World.size_alloc, World.size_drew]); omega)) | (with_reducible refine Bx.set ?_ rfl) | (with_reducible refine Bx.grown ?_ (by assumption) (by assumption))))
  have hz1 := hb1.size
  (try simp only [World.size_alloc] at hz1)
  have hw1 : Below w.heap.size w w1 := by (repeat' (first | (with_reducible exact Below.refl _ _) | (with_reducible assumption) | (with_reducible refine Below.alloc ?_ ?_ _) | (with_reducible refine Below.drew ?_) | (with_reducible refine below_drewN ?_ _) | (with_reducible refine Below.setCell ?_ ?_ _) | (with_reducible refine chain ?_ (by assumption) ?_) | omega | (simp; done) | (simp; omega)))
  have c0 := Xc1.c 0 rfl
  have c1' := Xc1.c 1 rfl
  have lc := Xc1.lt
  clear hb1
  go_wp2_with (fail)
  refine (ibs_t h1 h5 HD.out (by omega) j1).mono ?_
  rintro ee w2' ⟨rfl, rfl⟩
  go_wp2_with (fail)
  refine (zm1 (r := D) (by omega)).mono ?_
  rintro ee w2 ⟨g, rfl, hK2, hg2, hb2⟩
  have Xc2 := Xc1.mono hb2
  have Xz2 := Xz1.mono hb2
  have hz2 := hb2.size
  have hlg := hK2.lt
  have hw2 : Below w.heap.size w w2 := chain hw1 hb2 hw1.size
  clear hb2 c0 c1' lc Xc1 Xz1
  go_upto_region 4 with (fail)
  obtain ⟨W, hW⟩ : ∃ W : World, W = w2.alloc (.cells #[.int .i64 (D : Int), .int .i64 1, .slice (some ⟨g, 0, none⟩) D D] 28) := ⟨_, rfl⟩
  have hbW : Below w2.heap.size w2 W := by rw [hW]; exact (Below.refl _ _).alloc (Nat.le_refl _) _
  have Xm : Bx W w2.heap.size 28 #[.int .i64 (D : Int), .int .i64 1, .slice (some ⟨g, 0, none⟩) D D] := by rw [hW]; exact Bx.new rfl
  have hzW : w2.heap.size < W.heap.size := by rw [hW]; simp
  rw [← hW]
  clear hW
  have Xc := Xc2.mono hbW
  have Xz := Xz2.mono hbW
  have hwW : Below w.heap.size w W := chain hw2 hbW hw2.size
  have HKW := hid (hK2.mono hbW)
  clear Xc2 Xz2 hK2
  have cm1 := Xm.c 1 rfl
  have cm2 := Xm.c 2 rfl
  have ycm1 : W.drew.cell? ⟨w2.heap.size, 1, none⟩ = some (.int .i64 1) := cm1
  have ycm2 : W.drew.cell? ⟨w2.heap.size, 2, none⟩ = some (.slice (some ⟨g, 0, none⟩) D D) := cm2
  refine wp_region_x (fun w' => w'.cell? ⟨w2.heap.size, 1, none⟩ = some (.int .i64 1) ∧ w'.cell? ⟨w2.heap.size, 2, none⟩ = some (.slice (some ⟨g, 0, none⟩) D D)) 5 (by kernel_rfl) ⟨ycm1, ycm2⟩ (fun hS0 => ?_)
  refine wpAnyX_take (i := 0) (oi := _) (v := ?_) rfl (by kernel_rfl) (by kernel_rfl) (by kernel_rfl) (by kernel_rfl) (fun _ _ _ h => h) (Or.inl ⟨by rfl, ?_⟩) hS0 ?_
  rotate_left 1
  · (intro w hSw; (try dsimp only at hSw); go_simp; (try with_reducible rfl))
  try simp only [Act.put, List.setIfInBounds_toArray, List.set_cons_zero, List.set_cons_succ]
  refine wpAnyX_take (i := 1) (oi := _) (v := ?_) rfl (by kernel_rfl) (by kernel_rfl) (by kernel_rfl) (by kernel_rfl) (fun _ _ _ h => h) (Or.inl ⟨by rfl, ?_⟩) hS0 ?_
  rotate_left 1
  · (intro w hSw; (try dsimp only at hSw); go_simp; (try with_reducible rfl))
  try simp only [Act.put, List.setIfInBounds_toArray, List.set_cons_zero, List.set_cons_succ]
  refine wpAnyX_take (i := 2) (oi := _) (v := ?_) rfl (by kernel_rfl) (by kernel_rfl) (by kernel_rfl) (by kernel_rfl) (fun _ _ _ h => h) (Or.inl ⟨by rfl, ?_⟩) hS0 ?_
  rotate_left 1
  · (intro w hSw; (try dsimp only at hSw); go_simp; (try with_reducible rfl))
  try simp only [Act.put, List.setIfInBounds_toArray, List.set_cons_zero, List.set_cons_succ]
  refine wpAnyX_one (i := 3) (o := _) rfl (by kernel_rfl) (fun K hK => ?_)
  go_simp
  refine omp0.mono ?_
  rintro ee w3 ⟨rfl, hb30⟩
  have hb3 := undrewK hb30
  have hz3 := hb3.size
  refine hK.out _ _ (fun _ => ?_) (fun hS1 => ?_)
  · exact ⟨kc hb30 (hS0.1), kc hb30 (hS0.2)⟩
  clear hK K
  have hS1 := hS1 (by decide)
  try simp only [Act.put, List.setIfInBounds_toArray, List.set_cons_zero, List.set_cons_succ]
  refine wpAnyX_take (i := 4) (oi := _) (v := ?_) rfl (by kernel_rfl) (by kernel_rfl) (by kernel_rfl) (by kernel_rfl) (fun _ _ _ h => h) (Or.inl ⟨by rfl, ?_⟩) hS1 ?_
  rotate_left 1
  · (intro w hSw; (try dsimp only at hSw); go_simp; (try with_reducible rfl))
  try simp only [Act.put, List.setIfInBounds_toArray, List.set_cons_zero, List.set_cons_succ]
  refine wpAnyX_one (i := 5) (o := _) rfl (by kernel_rfl) (fun K hK => ?_)
  have hG3 := HKW.out.mono hb3
  have fr3 := hG3.fr
  obtain ⟨p0, p1, p2, p3, p4⟩ := hG3.cx (k := s) (x := z5) (by rw [List.getElem?_replicate, if_pos hs])
  go_simp
  refine hK.out _ _ (fun h => absurd rfl h) (fun _ => ?_)
  clear hK K
  try simp only [Act.put, List.setIfInBounds_toArray, List.set_cons_zero, List.set_cons_succ]
  refine wpAnyX_done (by kernel_rfl) ?_ _
  have hw3 : Below w.heap.size w w3 := chain hwW hb3 hwW.size
  have R1 := (Xc.mono hb3).far5 (g := g) (o := s * 5) one5 (by omega)
  have R2 := (Xz.mono hb3).far5 (g := g) (o := s * 5) one5 (by omega)
  have R3 := (Xm.mono hb3).far5 (g := g) (o := s * 5) one5 (by omega)
  have hG5 := hG3.set (k := s) one5 (by simp; exact hs)
  rw [show one5 = omP 0 from rfl, HB.out] at hG5
  have hw5 : Below w.heap.size w (set5 w3 g (s * 5) one5) := set5_below (x := one5) hw3 (by omega)
  have hw35 : set5 w3 g (s * 5) one5 = set5 w3 g (s * 5) (omP 0) := rfl
  obtain ⟨W5, hW5⟩ : ∃ W5 : World, W5 = set5 w3 g (s * 5) one5 := ⟨_, rfl⟩
  rw [← hW5] at R1 R2 R3 hw5
  rw [← hw35, ← hW5] at hG5
  have HK5 := hid hG5
  have e5 : W5.heap.size = w3.heap.size := by rw [hW5]; unfold set5; simp only [World.size_setCell]
  rw [show (((((w3.setCell ⟨g, s * 5, none⟩ (.int .i64 1)).setCell ⟨g, s * 5 + 1, none⟩ (.int .i64 0)).setCell ⟨g, s * 5 + 2, none⟩ (.int .i64 0)).setCell ⟨g, s * 5 + 3, none⟩ (.int .i64 0)).setCell ⟨g, s * 5 + 4, none⟩ (.int .i64 0)) = W5 from hW5.symm]
  clear hW5 hw35 hG5 hG3 fr3 p0 p1 p2 p3 p4 hb3 Xc Xz Xm HKW cm1 cm2
  have c0 := R1.c 0 rfl
  have c1' := R1.c 1 rfl
  have d0 := R3.c 0 rfl
  have d1 := R3.c 1 rfl
  have d2' := R3.c 2 rfl
  go_wp2_with (fail)
  refine (ag1 (n := n) (D := D) (m := m) (c1 := c1) (h0 := g) (A := A) (gs := gs) (xs := basL D s) ?_ HM.out hm4 HG.out h1 h5 HD.out ?_ basL_len (basL_ok DD.out)).mono ?_
  · exact HA.out.mono hw5
  · exact HK5.out
  rintro ee w6 ⟨r1, r2, hb6⟩
  have Xz6 := R2.mono hb6
  have hz6 := hb6.size
  have hw6 : Below w.heap.size w w6 := chain hw5 hb6 hw5.size
  have q0 := Xz6.c 0 rfl
  have q1 := Xz6.c 1 rfl
  have q2 := Xz6.c 2 rfl
  have qf := Xz6.f
  have ql := Xz6.lt
  clear hb6 c0 c1' d0 d1 d2' R1 R2 R3
  cases hq : apl n D 1 gs (basL D s) with
  | none =>
    obtain rfl := r1 hq
    have HQ := hid hq
    clear r1 r2 hq
    go_wp2_with (fail)
    refine bodyPost_ret (v := mt 0 0 none 0 0 false) (by first | (simp [results, Try.results37, go_sem, *]; done) | (simp (disch := (first | omega | (simp; done) | (simp; omega))) [results, Try.results37, go_sem, *]; done) | (simp only [results, Try.results37]; go_simp; done)) rfl ⟨fun _ => rfl, fun zs k => ?_, ?_⟩
    · rw [HQ.out] at k; cases k
    · (repeat' (first | (with_reducible exact Below.refl _ _) | (with_reducible assumption) | (with_reducible refine Below.alloc ?_ ?_ _) | (with_reducible refine Below.drew ?_) | (with_reducible refine below_drewN ?_ _) | (with_reducible refine Below.setCell ?_ ?_ _) | (with_reducible refine chain ?_ (by assumption) ?_) | omega | (simp; done) | (simp; omega)))
  | some zs =>
    obtain ⟨h, rfl, hK, hh⟩ := r2 zs hq
    have HQ := hid hq
    have HK := hid hK
    have hhl := hK.lt
    clear r1 r2 hq hK
    go_wp2_with (fail)
    refine bodyPost_ret (v := mt (D : Int) 1 (some ⟨h, 0, none⟩) D D true) (by first | (simp [results, Try.results37, go_sem, *]; done) | (simp (disch := (first | omega | (simp; done) | (simp; omega))) [results, Try.results37, go_sem, *]; done) | (simp only [results, Try.results37]; go_simp; done)) rfl ⟨fun k => ?_, fun zs k => ?_, ?_⟩
    · rw [HQ.out] at k; cases k
    · rw [HQ.out] at k
      obtain rfl := Option.some.inj k
      refine ⟨h, rfl, ?_, by omega⟩
      (repeat' (first | exact HK.out | refine Bk.far ?_ (by show h ≠ w.heap.size + 1; omega) _))
    · (repeat' (first | (with_reducible exact Below.refl _ _) | (with_reducible assumption) | (with_reducible refine Below.alloc ?_ ?_ _) | (with_reducible refine Below.drew ?_) | (with_reducible refine below_drewN ?_ _) | (with_reducible refine Below.setCell ?_ ?_ _) | (with_reducible refine chain ?_ (by assumption) ?_) | omega | (simp; done) | (simp; omega)))

end Go.Proofs.Ytnjckeadcbfogaa
