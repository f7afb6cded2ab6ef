/- PauliFrameOf: words and the program. -/
import Derived.Test.YtjedpeoafpljhaaE8d
import Derived.Test.YtjedpeoafpljhaaGmA
namespace Go.Proofs.Ytjedpeoafpljhaa.C4
open Go.RowKit
set_option linter.unusedVariables false
set_option linter.unusedSimpArgs false
attribute [local irreducible] World.setCell

open GM
/-- the numbers whose bits say which of the first j phases are 2 -/
def frB (ys : List PauliV) : Nat → Nat
  | 0 => 0
  | j + 1 => if (ys.getD j PauliV.z).f0 = 2 then frB ys j ||| 2 ^ j else frB ys j
theorem frB_lt (ys : List PauliV) (j : Nat) : frB ys j < 2 ^ j := by
  induction j with
  | zero => exact Nat.zero_lt_one
  | succ j ih =>
    have h2 : 2 ^ j < 2 ^ (j + 1) := Nat.pow_lt_pow_right (by decide) (Nat.lt_succ_self j)
    unfold frB
    split
    · exact Nat.or_lt_two_pow (Nat.lt_trans ih h2) h2
    · exact Nat.lt_trans ih h2
/-- phases of a valid tableau are even -/
theorem TOk_ev {n : Nat} {xs zs : List PauliV} (h : okU n (xs ++ zs) (n + n)) (hn : xs.length = n) (hm : zs.length = n) : (∀ (k : Nat) (x : PauliV), xs[k]? = some x → x.f0 % 2 = 0) ∧ (∀ (k : Nat) (x : PauliV), zs[k]? = some x → x.f0 % 2 = 0) := by
  refine ⟨fun k x hx => ?_, fun k x hx => ?_⟩
  · have hk := (List.getElem?_eq_some_iff.1 hx).1
    exact (h k x (by omega) (by rw [List.getElem?_append_left hk]; exact hx)).2.1
  · have hk := (List.getElem?_eq_some_iff.1 hx).1
    exact (h (n + k) x (by omega) (by rw [List.getElem?_append_right (by omega), hn, Nat.add_sub_cancel_left]; exact hx)).2.1
theorem frB_0 {ys : List PauliV} {j a b : Nat} (h : ys[j]? = some (pv 0 a b)) : frB ys (j + 1) = frB ys j := by
  have e : ys.getD j PauliV.z = pv 0 a b := by rw [List.getD_eq_getElem?_getD, h]; rfl
  show (if (ys.getD j PauliV.z).f0 = 2 then _ else _) = _
  rw [e, if_neg (by show ¬ ((0 : Int) = 2); decide)]
theorem frB_2 {ys : List PauliV} {j a b : Nat} (h : ys[j]? = some (pv 2 a b)) : frB ys (j + 1) = frB ys j ||| 2 ^ j := by
  have e : ys.getD j PauliV.z = pv 2 a b := by rw [List.getD_eq_getElem?_getD, h]; rfl
  show (if (ys.getD j PauliV.z).f0 = 2 then _ else _) = _
  rw [e, if_pos (show (pv 2 a b).f0 = 2 from rfl)]
theorem bo0_all : (allN 32 fun a => decide (bits .or .i64 ((a : Nat) : Int) 0 = ((a : Nat) : Int))) = true := by decide +kernel
theorem bo1_all : (allN 32 fun a => allN 5 fun j => decide (bits .or .i64 ((a : Nat) : Int) ((pw j : Nat) : Int) = ((a ||| 2 ^ j : Nat) : Int))) = true := by decide +kernel
theorem bo0 {a : Nat} (ha : a < 32) : bits .or .i64 (a : Int) 0 = (a : Int) := of_decide_eq_true (allN_get bo0_all ha)
theorem bo1 {a j : Nat} (ha : a < 32) (hj : j < 5) : bits .or .i64 (a : Int) ((pw j : Nat) : Int) = ((a ||| 2 ^ j : Nat) : Int) := of_decide_eq_true (allN_get (allN_get bo1_all ha) hj)
theorem frB_32 {n j : Nat} (ys : List PauliV) (q5 : n ≤ 5) (hj : j ≤ n) : frB ys j < 32 := Nat.lt_of_lt_of_le (frB_lt ys j) (Nat.pow_le_pow_right (n := 2) (by decide) (show j ≤ 5 by omega))
theorem ev02 {p a b : Nat} {P : Prop} (h3 : p ≤ 3) (h : (pv p a b).f0 % 2 = 0) (h0 : p = 0 → P) (h2 : p = 2 → P) : P := by
  have h' : ((p : Nat) : Int) % 2 = 0 := h
  rcases (show p = 0 ∨ p = 2 by omega) with e | e
  · exact h0 e
  · exact h2 e
set_option maxRecDepth 100000 in
set_option maxHeartbeats 8000000 in
theorem pfi_t {n g h c1 c2 : Nat} {xs zs : List PauliV} {w : World} (q1 : 1 ≤ n) (q5 : n ≤ 5) (ht : TOk (n : Int) n n xs zs) (hs : soU xs zs n) (hA : Rd pauliE w (some ⟨g, 0, none⟩) xs) (hB : Rd pauliE w (some ⟨h, 0, none⟩) zs) (hn : xs.length = n) (hm : zs.length = n) :
    Calls Try.prog 47 #[tableauV (n : Int) (some ⟨g, 0, none⟩) n c1 (some ⟨h, 0, none⟩) n c2] w fun ee w' => ee = .returned (.tuple #[pA 0 (frB zs n) (frB xs n), .bool true]) ∧ Below w.heap.size w w' := by
  have HTT := lay ht
  have hok := (TOk_m q1 q5 hn hm).1 ht
  obtain ⟨oX, oZ⟩ := TOk_L hok hn hm
  obtain ⟨eX, eZ⟩ := TOk_ev hok hn hm
  have OX := lay oX
  have OZ := lay oZ
  have EX := lay eX
  have EZ := lay eZ
  have HA := lay hA
  have HB := lay hB
  have HS := lay hs
  have hml : n ≤ maxLen := by unfold maxLen; omega
  clear ht hok oX oZ eX eZ hA hB hs
  go_enter Try.func47, Try.ntmps47
  go_wp2_with (fail)
  refine (soi (t := true) (xs := xs) (zs := zs) q1 q5 HTT.out ⟨fun _ => HS.out, fun _ => rfl⟩ ?_ ?_ hn hm).mono ?_
  · exact HA.out.mono (by (repeat' (first | (with_reducible exact Below.refl _ _) | (with_reducible assumption) | (with_reducible refine Below.alloc ?_ ?_ _) | (with_reducible refine Below.drew ?_) | (with_reducible refine bdN ?_ _) | (with_reducible refine Below.setCell ?_ ?_ _) | (with_reducible refine chn ?_ (by assumption) ?_) | omega | (simp; done) | (simp; omega))))
  · exact HB.out.mono (by (repeat' (first | (with_reducible exact Below.refl _ _) | (with_reducible assumption) | (with_reducible refine Below.alloc ?_ ?_ _) | (with_reducible refine Below.drew ?_) | (with_reducible refine bdN ?_ _) | (with_reducible refine Below.setCell ?_ ?_ _) | (with_reducible refine chn ?_ (by assumption) ?_) | omega | (simp; done) | (simp; omega))))
  rintro ee w1 ⟨rfl, hb1⟩
  have hz1 := hb1.size
  (try simp only [World.size_alloc] at hz1)
  have Xt : Hid (Bb w1 (w.heap.size) 53 #[.int .i64 (n : Int), .slice (some ⟨g, 0, none⟩) n c1, .slice (some ⟨h, 0, none⟩) n c2]) := by show Bb _ _ _ _; (repeat' (first | (with_reducible assumption) | (refine Bb.new (by first | (with_reducible rfl) | (simp; done))) | (with_reducible refine Bb.alloc ?_ _) | (with_reducible refine Bb.drew ?_) | (with_reducible refine Bb.drewN ?_ _) | (with_reducible refine Bb.mono ?_ (by assumption)) | (with_reducible refine Bb.far ?_ (by (try simp only [World.size_alloc, World.size_drew]); omega)) | (with_reducible refine Bb.set ?_ rfl) | (with_reducible refine Bb.grown ?_ (by assumption) (by assumption))))
  have Xz : Hid (Bb w1 (w.heap.size + 1) 43 #[.int .i64 0, .int .i64 0, .int .i64 0]) := by show Bb _ _ _ _; (repeat' (first | (with_reducible assumption) | (refine Bb.new (by first | (with_reducible rfl) | (simp; done))) | (with_reducible refine Bb.alloc ?_ _) | (with_reducible refine Bb.drew ?_) | (with_reducible refine Bb.drewN ?_ _) | (with_reducible refine Bb.mono ?_ (by assumption)) | (with_reducible refine Bb.far ?_ (by (try simp only [World.size_alloc, World.size_drew]); omega)) | (with_reducible refine Bb.set ?_ rfl) | (with_reducible refine Bb.grown ?_ (by assumption) (by assumption))))
  have hB1 : Below w.heap.size w w1 := by (repeat' (first | (with_reducible exact Below.refl _ _) | (with_reducible assumption) | (with_reducible refine Below.alloc ?_ ?_ _) | (with_reducible refine Below.drew ?_) | (with_reducible refine bdN ?_ _) | (with_reducible refine Below.setCell ?_ ?_ _) | (with_reducible refine chn ?_ (by assumption) ?_) | omega | (simp; done) | (simp; omega)))
  clear hb1
  have ct0 := Xt.out.c 0 rfl
  have ct1 := Xt.out.c 1 rfl
  have ct2 := Xt.out.c 2 rfl
  have cz0 := Xz.out.c 0 rfl
  have cz1 := Xz.out.c 1 rfl
  have cz2 := Xz.out.c 2 rfl
  have lt := Xt.out.lt
  have lz := Xz.out.lt
  go_wp2_with (fail)
  go_loopg [18] n (fun k s18 wr => ∃ j : Nat, j + k = n ∧ s18 = .int .i64 (j : Int) ∧ Hid (Bb wr (w.heap.size) 53 #[.int .i64 (n : Int), .slice (some ⟨g, 0, none⟩) n c1, .slice (some ⟨h, 0, none⟩) n c2]) ∧ Hid (Bb wr (w.heap.size + 1) 43 #[.int .i64 0, .int .i64 0, .int .i64 0]) ∧ Hid (Bb wr (w1.heap.size) 43 #[.int .i64 0, .int .i64 ((frB zs j : Nat) : Int), .int .i64 ((frB xs j : Nat) : Int)]) ∧ Below w.heap.size w wr)
  case atStart =>
    have R1 := Xt.out
    have R2 := Xz.out
    refine ⟨0, by omega, rfl, ?_, ?_, ?_, ?_⟩
    · show Bb _ _ _ _; (repeat' (first | (with_reducible assumption) | (refine Bb.new (by first | (with_reducible rfl) | (simp; done))) | (with_reducible refine Bb.alloc ?_ _) | (with_reducible refine Bb.drew ?_) | (with_reducible refine Bb.drewN ?_ _) | (with_reducible refine Bb.mono ?_ (by assumption)) | (with_reducible refine Bb.far ?_ (by (try simp only [World.size_alloc, World.size_drew]); omega)) | (with_reducible refine Bb.set ?_ rfl) | (with_reducible refine Bb.grown ?_ (by assumption) (by assumption))))
    · show Bb _ _ _ _; (repeat' (first | (with_reducible assumption) | (refine Bb.new (by first | (with_reducible rfl) | (simp; done))) | (with_reducible refine Bb.alloc ?_ _) | (with_reducible refine Bb.drew ?_) | (with_reducible refine Bb.drewN ?_ _) | (with_reducible refine Bb.mono ?_ (by assumption)) | (with_reducible refine Bb.far ?_ (by (try simp only [World.size_alloc, World.size_drew]); omega)) | (with_reducible refine Bb.set ?_ rfl) | (with_reducible refine Bb.grown ?_ (by assumption) (by assumption))))
    · show Bb _ _ _ _; exact Bb.new rfl
    · (repeat' (first | (with_reducible exact Below.refl _ _) | (with_reducible assumption) | (with_reducible refine Below.alloc ?_ ?_ _) | (with_reducible refine Below.drew ?_) | (with_reducible refine bdN ?_ _) | (with_reducible refine Below.setCell ?_ ?_ _) | (with_reducible refine chn ?_ (by assumption) ?_) | omega | (simp; done) | (simp; omega)))
  case round =>
    obtain ⟨j, hj, rfl, Xr, Zr, Fr, hB⟩ := hrel
    clear ct0 ct1 ct2 cz0 cz1 cz2 lt lz 
    clear Xt Xz
    have hBs := hB.size
    have ct0 := Xr.out.c 0 rfl
    have ct1 := Xr.out.c 1 rfl
    have ct2 := Xr.out.c 2 rfl
    have lt := Xr.out.lt
    have cz0 := Zr.out.c 0 rfl
    have cz1 := Zr.out.c 1 rfl
    have cz2 := Zr.out.c 2 rfl
    have lz := Zr.out.lt
    have fz := Zr.out.f
    have cf0 := Fr.out.c 0 rfl
    have cf1 := Fr.out.c 1 rfl
    have cf2 := Fr.out.c 2 rfl
    have lf := Fr.out.lt
    have ff := Fr.out.f
    cases gk with
    | zero =>
      obtain rfl : n = j := by omega
      go_wp2_with (fail)
      refine bodyPost_ret (v := .tuple #[pA 0 (frB zs n) (frB xs n), .bool true]) (by first | (simp [results, Try.results47, go_sem, *]; done) | (simp (disch := (first | omega | (simp; done) | (simp; omega))) [results, Try.results47, go_sem, *]; done) | (simp only [results, Try.results47]; go_simp; done)) rfl ⟨rfl, ?_⟩
      (repeat' (first | (with_reducible exact Below.refl _ _) | (with_reducible assumption) | (with_reducible refine Below.alloc ?_ ?_ _) | (with_reducible refine Below.drew ?_) | (with_reducible refine bdN ?_ _) | (with_reducible refine Below.setCell ?_ ?_ _) | (with_reducible refine chn ?_ (by assumption) ?_) | omega | (simp; done) | (simp; omega)))
    | succ m =>
      have hlt : j < n := by omega
      have hj5 : j < 5 := by omega
      have jl : (j : Int) < (n : Int) := by omega
      have h1z : frB zs j < 32 := frB_32 zs q5 (by omega)
      have h1x : frB xs j < 32 := frB_32 xs q5 (by omega)
      obtain ⟨pX, aX, bX, hx, pX3, aX2, bX2, nX⟩ := okL_at OX.out hlt
      obtain ⟨pZ, aZ, bZ, hz, pZ3, aZ2, bZ2, nZ⟩ := okL_at OZ.out hlt
      obtain ⟨gX, oX, eX, hgX, hcX⟩ := HA.out.atPauli hx
      obtain ⟨gZ, oZ, eZ, hgZ, hcZ⟩ := HB.out.atPauli hz
      cases eX
      cases eZ
      simp only [Nat.zero_add] at hcX hcZ
      have HX := lay hx
      have HZ := lay hz
      obtain ⟨x0, x1, x2⟩ := hcX
      obtain ⟨z0, z1, z2⟩ := hcZ
      clear hx hz nX nZ
      have j5 : j ≤ 5 := by omega
      have e1 := pw_w j5
      have e2 := pw_k j5
      have a1 : IntKind.i64.wrap ((j : Int)) = (j : Int) := IntWalk.i64_in _ (by omega)
      have hb0 := hB
      have lgg : g < wr.heap.size := Nat.lt_of_lt_of_le hgX hb0.size
      have lgh : h < wr.heap.size := Nat.lt_of_lt_of_le hgZ hb0.size
      have x0' : wr.cell? ⟨g, j * 3, none⟩ = some (.int .i64 (pX : Int)) := (World.cell?_of_block (hb0.block _ hgX)).trans x0
      have x1' : wr.cell? ⟨g, j * 3 + 1, none⟩ = some (.int .i64 (aX : Int)) := (World.cell?_of_block (hb0.block _ hgX)).trans x1
      have x2' : wr.cell? ⟨g, j * 3 + 2, none⟩ = some (.int .i64 (bX : Int)) := (World.cell?_of_block (hb0.block _ hgX)).trans x2
      have z0' : wr.cell? ⟨h, j * 3, none⟩ = some (.int .i64 (pZ : Int)) := (World.cell?_of_block (hb0.block _ hgZ)).trans z0
      have z1' : wr.cell? ⟨h, j * 3 + 1, none⟩ = some (.int .i64 (aZ : Int)) := (World.cell?_of_block (hb0.block _ hgZ)).trans z1
      have z2' : wr.cell? ⟨h, j * 3 + 2, none⟩ = some (.int .i64 (bZ : Int)) := (World.cell?_of_block (hb0.block _ hgZ)).trans z2
      refine ev02 pX3 (EX.out _ _ HX.out) (fun e0 => ?_) (fun e0 => ?_)
      · subst e0
        refine ev02 pZ3 (EZ.out _ _ HZ.out) (fun e0 => ?_) (fun e0 => ?_)
        · subst e0
          have g1 : frB zs (j + 1) = frB zs j := frB_0 HZ.out
          have g2 : frB xs (j + 1) = frB xs j := frB_0 HX.out
          obtain ⟨u1, hu1⟩ : ∃ u, u = frB zs (j + 1) := ⟨_, rfl⟩
          obtain ⟨u2, hu2⟩ : ∃ u, u = frB xs (j + 1) := ⟨_, rfl⟩
          have o1 : bits .or .i64 ((frB zs j : Nat) : Int) 0 = (u1 : Int) := by rw [hu1, g1]; exact bo0 h1z
          have o2 : bits .or .i64 ((frB xs j : Nat) : Int) 0 = (u2 : Int) := by rw [hu2, g2]; exact bo0 h1x
          have U1 := lay hu1
          have U2 := lay hu2
          clear g1 g2 hu1 hu2
          go_wp2_with (fail)
          go_region
          go_wp2_with (fail)
          go_region
          go_wp2_with (fail)
          go_roundg m
          case measure => omega
          case rel =>
            have R1 := Xr.out
            have R2 := Zr.out
            have R3 := Fr.out
            refine ⟨j + 1, by omega, by go_num, ?_, ?_, ?_, ?_⟩
            · show Bb _ _ _ _; (repeat' (first | (with_reducible assumption) | (refine Bb.new (by first | (with_reducible rfl) | (simp; done))) | (with_reducible refine Bb.alloc ?_ _) | (with_reducible refine Bb.drew ?_) | (with_reducible refine Bb.drewN ?_ _) | (with_reducible refine Bb.mono ?_ (by assumption)) | (with_reducible refine Bb.far ?_ (by (try simp only [World.size_alloc, World.size_drew]); omega)) | (with_reducible refine Bb.set ?_ rfl) | (with_reducible refine Bb.grown ?_ (by assumption) (by assumption))))
            · show Bb _ _ _ _; (repeat' (first | (with_reducible assumption) | (refine Bb.new (by first | (with_reducible rfl) | (simp; done))) | (with_reducible refine Bb.alloc ?_ _) | (with_reducible refine Bb.drew ?_) | (with_reducible refine Bb.drewN ?_ _) | (with_reducible refine Bb.mono ?_ (by assumption)) | (with_reducible refine Bb.far ?_ (by (try simp only [World.size_alloc, World.size_drew]); omega)) | (with_reducible refine Bb.set ?_ rfl) | (with_reducible refine Bb.grown ?_ (by assumption) (by assumption))))
            · show Bb _ _ _ _; rw [← U1.out, ← U2.out]; exact Bb.drew (Bb.drew ((R3.set rfl).set rfl))
            · (repeat' (first | (with_reducible exact Below.refl _ _) | (with_reducible assumption) | (with_reducible refine Below.alloc ?_ ?_ _) | (with_reducible refine Below.drew ?_) | (with_reducible refine bdN ?_ _) | (with_reducible refine Below.setCell ?_ ?_ _) | (with_reducible refine chn ?_ (by assumption) ?_) | omega | (simp; done) | (simp; omega)))
        · subst e0
          have g1 : frB zs (j + 1) = frB zs j ||| 2 ^ j := frB_2 HZ.out
          have g2 : frB xs (j + 1) = frB xs j := frB_0 HX.out
          obtain ⟨u1, hu1⟩ : ∃ u, u = frB zs (j + 1) := ⟨_, rfl⟩
          obtain ⟨u2, hu2⟩ : ∃ u, u = frB xs (j + 1) := ⟨_, rfl⟩
          have o1 : bits .or .i64 ((frB zs j : Nat) : Int) ((pw j : Nat) : Int) = (u1 : Int) := by rw [hu1, g1]; exact bo1 h1z hj5
          have o2 : bits .or .i64 ((frB xs j : Nat) : Int) 0 = (u2 : Int) := by rw [hu2, g2]; exact bo0 h1x
          have U1 := lay hu1
          have U2 := lay hu2
          clear g1 g2 hu1 hu2
          go_wp2_with (fail)
          go_region
          go_wp2_with (fail)
          go_region
          go_wp2_with (fail)
          go_roundg m
          case measure => omega
          case rel =>
            have R1 := Xr.out
            have R2 := Zr.out
            have R3 := Fr.out
            refine ⟨j + 1, by omega, by go_num, ?_, ?_, ?_, ?_⟩
            · show Bb _ _ _ _; (repeat' (first | (with_reducible assumption) | (refine Bb.new (by first | (with_reducible rfl) | (simp; done))) | (with_reducible refine Bb.alloc ?_ _) | (with_reducible refine Bb.drew ?_) | (with_reducible refine Bb.drewN ?_ _) | (with_reducible refine Bb.mono ?_ (by assumption)) | (with_reducible refine Bb.far ?_ (by (try simp only [World.size_alloc, World.size_drew]); omega)) | (with_reducible refine Bb.set ?_ rfl) | (with_reducible refine Bb.grown ?_ (by assumption) (by assumption))))
            · show Bb _ _ _ _; (repeat' (first | (with_reducible assumption) | (refine Bb.new (by first | (with_reducible rfl) | (simp; done))) | (with_reducible refine Bb.alloc ?_ _) | (with_reducible refine Bb.drew ?_) | (with_reducible refine Bb.drewN ?_ _) | (with_reducible refine Bb.mono ?_ (by assumption)) | (with_reducible refine Bb.far ?_ (by (try simp only [World.size_alloc, World.size_drew]); omega)) | (with_reducible refine Bb.set ?_ rfl) | (with_reducible refine Bb.grown ?_ (by assumption) (by assumption))))
            · show Bb _ _ _ _; rw [← U1.out, ← U2.out]; exact Bb.drew (Bb.drew ((R3.set rfl).set rfl))
            · (repeat' (first | (with_reducible exact Below.refl _ _) | (with_reducible assumption) | (with_reducible refine Below.alloc ?_ ?_ _) | (with_reducible refine Below.drew ?_) | (with_reducible refine bdN ?_ _) | (with_reducible refine Below.setCell ?_ ?_ _) | (with_reducible refine chn ?_ (by assumption) ?_) | omega | (simp; done) | (simp; omega)))
      · subst e0
        refine ev02 pZ3 (EZ.out _ _ HZ.out) (fun e0 => ?_) (fun e0 => ?_)
        · subst e0
          have g1 : frB zs (j + 1) = frB zs j := frB_0 HZ.out
          have g2 : frB xs (j + 1) = frB xs j ||| 2 ^ j := frB_2 HX.out
          obtain ⟨u1, hu1⟩ : ∃ u, u = frB zs (j + 1) := ⟨_, rfl⟩
          obtain ⟨u2, hu2⟩ : ∃ u, u = frB xs (j + 1) := ⟨_, rfl⟩
          have o1 : bits .or .i64 ((frB zs j : Nat) : Int) 0 = (u1 : Int) := by rw [hu1, g1]; exact bo0 h1z
          have o2 : bits .or .i64 ((frB xs j : Nat) : Int) ((pw j : Nat) : Int) = (u2 : Int) := by rw [hu2, g2]; exact bo1 h1x hj5
          have U1 := lay hu1
          have U2 := lay hu2
          clear g1 g2 hu1 hu2
          go_wp2_with (fail)
          go_region
          go_wp2_with (fail)
          go_region
          go_wp2_with (fail)
          go_roundg m
          case measure => omega
          case rel =>
            have R1 := Xr.out
            have R2 := Zr.out
            have R3 := Fr.out
            refine ⟨j + 1, by omega, by go_num, ?_, ?_, ?_, ?_⟩
            · show Bb _ _ _ _; (repeat' (first | (with_reducible assumption) | (refine Bb.new (by first | (with_reducible rfl) | (simp; done))) | (with_reducible refine Bb.alloc ?_ _) | (with_reducible refine Bb.drew ?_) | (with_reducible refine Bb.drewN ?_ _) | (with_reducible refine Bb.mono ?_ (by assumption)) | (with_reducible refine Bb.far ?_ (by (try simp only [World.size_alloc, World.size_drew]); omega)) | (with_reducible refine Bb.set ?_ rfl) | (with_reducible refine Bb.grown ?_ (by assumption) (by assumption))))
            · show Bb _ _ _ _; (repeat' (first | (with_reducible assumption) | (refine Bb.new (by first | (with_reducible rfl) | (simp; done))) | (with_reducible refine Bb.alloc ?_ _) | (with_reducible refine Bb.drew ?_) | (with_reducible refine Bb.drewN ?_ _) | (with_reducible refine Bb.mono ?_ (by assumption)) | (with_reducible refine Bb.far ?_ (by (try simp only [World.size_alloc, World.size_drew]); omega)) | (with_reducible refine Bb.set ?_ rfl) | (with_reducible refine Bb.grown ?_ (by assumption) (by assumption))))
            · show Bb _ _ _ _; rw [← U1.out, ← U2.out]; exact Bb.drew (Bb.drew ((R3.set rfl).set rfl))
            · (repeat' (first | (with_reducible exact Below.refl _ _) | (with_reducible assumption) | (with_reducible refine Below.alloc ?_ ?_ _) | (with_reducible refine Below.drew ?_) | (with_reducible refine bdN ?_ _) | (with_reducible refine Below.setCell ?_ ?_ _) | (with_reducible refine chn ?_ (by assumption) ?_) | omega | (simp; done) | (simp; omega)))
        · subst e0
          have g1 : frB zs (j + 1) = frB zs j ||| 2 ^ j := frB_2 HZ.out
          have g2 : frB xs (j + 1) = frB xs j ||| 2 ^ j := frB_2 HX.out
          obtain ⟨u1, hu1⟩ : ∃ u, u = frB zs (j + 1) := ⟨_, rfl⟩
          obtain ⟨u2, hu2⟩ : ∃ u, u = frB xs (j + 1) := ⟨_, rfl⟩
          have o1 : bits .or .i64 ((frB zs j : Nat) : Int) ((pw j : Nat) : Int) = (u1 : Int) := by rw [hu1, g1]; exact bo1 h1z hj5
          have o2 : bits .or .i64 ((frB xs j : Nat) : Int) ((pw j : Nat) : Int) = (u2 : Int) := by rw [hu2, g2]; exact bo1 h1x hj5
          have U1 := lay hu1
          have U2 := lay hu2
          clear g1 g2 hu1 hu2
          go_wp2_with (fail)
          go_region
          go_wp2_with (fail)
          go_region
          go_wp2_with (fail)
          go_roundg m
          case measure => omega
          case rel =>
            have R1 := Xr.out
            have R2 := Zr.out
            have R3 := Fr.out
            refine ⟨j + 1, by omega, by go_num, ?_, ?_, ?_, ?_⟩
            · show Bb _ _ _ _; (repeat' (first | (with_reducible assumption) | (refine Bb.new (by first | (with_reducible rfl) | (simp; done))) | (with_reducible refine Bb.alloc ?_ _) | (with_reducible refine Bb.drew ?_) | (with_reducible refine Bb.drewN ?_ _) | (with_reducible refine Bb.mono ?_ (by assumption)) | (with_reducible refine Bb.far ?_ (by (try simp only [World.size_alloc, World.size_drew]); omega)) | (with_reducible refine Bb.set ?_ rfl) | (with_reducible refine Bb.grown ?_ (by assumption) (by assumption))))
            · show Bb _ _ _ _; (repeat' (first | (with_reducible assumption) | (refine Bb.new (by first | (with_reducible rfl) | (simp; done))) | (with_reducible refine Bb.alloc ?_ _) | (with_reducible refine Bb.drew ?_) | (with_reducible refine Bb.drewN ?_ _) | (with_reducible refine Bb.mono ?_ (by assumption)) | (with_reducible refine Bb.far ?_ (by (try simp only [World.size_alloc, World.size_drew]); omega)) | (with_reducible refine Bb.set ?_ rfl) | (with_reducible refine Bb.grown ?_ (by assumption) (by assumption))))
            · show Bb _ _ _ _; rw [← U1.out, ← U2.out]; exact Bb.drew (Bb.drew ((R3.set rfl).set rfl))
            · (repeat' (first | (with_reducible exact Below.refl _ _) | (with_reducible assumption) | (with_reducible refine Below.alloc ?_ ?_ _) | (with_reducible refine Below.drew ?_) | (with_reducible refine bdN ?_ _) | (with_reducible refine Below.setCell ?_ ?_ _) | (with_reducible refine chn ?_ (by assumption) ?_) | omega | (simp; done) | (simp; omega)))

end Go.Proofs.Ytjedpeoafpljhaa.C4
