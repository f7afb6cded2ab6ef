/- preimage: the program. -/
import Derived.Test.YtjedpeoafpljhaaZi1
import Derived.Test.YtjedpeoafpljhaaPc
import Derived.Test.YtjedpeoafpljhaaPimi
import Derived.Test.YtjedpeoafpljhaaGmA
import Derived.Test.YtjedpeoafpljhaaRgx
namespace Go.Proofs.Ytjedpeoafpljhaa.C4
open Go.RowKit
set_option linter.unusedVariables false
set_option linter.unusedSimpArgs false
attribute [local irreducible] World.setCell

open GM
theorem fld0 (a b c : Int) (w : World) : (Instr.field 43 (.agg #[.int .i64 a, .int .i64 b, .int .i64 c]) 0).run Try.prog w = .ok (.int .i64 a) w := by kernel_rfl
theorem bo2_all : (allN 32 fun a => allN 5 fun j => decide (bits .or .i64 ((a : Nat) : Int) ((pw j : Nat) : Int) = ((a ||| 2 ^ j : Nat) : Int))) = true := by decide +kernel
theorem bo2 {a j : Nat} (ha : a < 32) (hj : j < 5) : bits .or .i64 (a : Int) ((pw j : Nat) : Int) = ((a ||| 2 ^ j : Nat) : Int) := of_decide_eq_true (allN_get (allN_get bo2_all ha) hj)
theorem fnd_t {ys : List PauliV} {p s : St} {j : Nat} (hs : nat3 (ys.getD j PauliV.z) = s) (h : ac2 p s = true) : fnd ys p (j + 1) = fnd ys p j ||| 2 ^ j := by
  show (if ac2 p (nat3 (ys.getD j PauliV.z)) = true then _ else _) = _
  rw [hs, if_pos h]
theorem fnd_f {ys : List PauliV} {p s : St} {j : Nat} (hs : nat3 (ys.getD j PauliV.z) = s) (h : ac2 p s = false) : fnd ys p (j + 1) = fnd ys p j := by
  show (if ac2 p (nat3 (ys.getD j PauliV.z)) = true then _ else _) = _
  rw [hs, if_neg (by rw [h]; decide)]
theorem fnd_32 {n j : Nat} (ys : List PauliV) (p : St) (q5 : n ≤ 5) (hj : j ≤ n) : fnd ys p j < 32 := Nat.lt_of_lt_of_le (fnd_lt ys p j) (Nat.pow_le_pow_right (n := 2) (by decide) (show j ≤ 5 by omega))
set_option maxRecDepth 100000 in
set_option maxHeartbeats 16000000 in
theorem ppre {n PX PZ c1 c2 r ph IX IZ : Nat} {A1 A2 : Option Addr} {xs zs : List PauliV} {w : World} (q5 : n ≤ 5) (hPh : PhM 63 w r) (h1 : PX < 2 ^ n) (h2 : PZ < 2 ^ n) (hA : Rd pauliE w A1 xs) (hB : Rd pauliE w A2 zs) (hx : okL n xs) (hz : okL n zs) (hr : imgS (fnd zs (0, PX, PZ) n) (fnd xs (0, PX, PZ) n) xs zs 0 n = (ph, IX, IZ)) :
    Calls Try.prog 101 #[.map (some r), tableauV (n : Int) A1 n c1 A2 n c2, .agg #[.int .i64 0, .int .i64 (PX : Int), .int .i64 (PZ : Int)]] w fun ee w' => ee = .returned (pA ph (fnd zs (0, PX, PZ) n) (fnd xs (0, PX, PZ) n)) ∧ Below w.heap.size w w' := by
  have HPH := lay hPh
  have H1 := lay h1
  have H2 := lay h2
  have HA := lay hA
  have HB := lay hB
  have OX := lay hx
  have OZ := lay hz
  have HR := lay hr
  clear hPh h1 h2 hA hB hx hz hr
  go_enter Try.func101, Try.ntmps101
  go_wp2_with (fail)
  go_loopg [11] n (fun k s11 wr => ∃ j : Nat, j + k = n ∧ s11 = .int .i64 (j : Int) ∧ Hid (Bb wr (w.heap.size) 53 #[.int .i64 (n : Int), .slice A1 n c1, .slice A2 n c2]) ∧ Hid (Bb wr (w.heap.size + 1) 43 #[.int .i64 0, .int .i64 (PX : Int), .int .i64 (PZ : Int)]) ∧ Hid (Bb wr (w.heap.size + 1 + 1) 43 #[.int .i64 0, .int .i64 0, .int .i64 0]) ∧ Hid (Bb wr (w.heap.size + 1 + 1 + 1) 43 #[.int .i64 0, .int .i64 ((fnd zs (0, PX, PZ) j : Nat) : Int), .int .i64 ((fnd xs (0, PX, PZ) j : Nat) : Int)]) ∧ Below w.heap.size w wr)
  case atStart =>
    refine ⟨0, by omega, rfl, ?_, ?_, ?_, ?_, ?_⟩
    · show Bb _ _ _ _; (repeat' (first | (with_reducible assumption) | (refine Bb.new (by first | (with_reducible rfl) | (simp; done))) | (with_reducible refine Bb.alloc ?_ _) | (with_reducible refine Bb.drew ?_) | (with_reducible refine Bb.drewN ?_ _) | (with_reducible refine Bb.mono ?_ (by assumption)) | (with_reducible refine Bb.far ?_ (by (try simp only [World.size_alloc, World.size_drew]); omega)) | (with_reducible refine Bb.set ?_ rfl) | (with_reducible refine Bb.grown ?_ (by assumption) (by assumption))))
    · show Bb _ _ _ _; (repeat' (first | (with_reducible assumption) | (refine Bb.new (by first | (with_reducible rfl) | (simp; done))) | (with_reducible refine Bb.alloc ?_ _) | (with_reducible refine Bb.drew ?_) | (with_reducible refine Bb.drewN ?_ _) | (with_reducible refine Bb.mono ?_ (by assumption)) | (with_reducible refine Bb.far ?_ (by (try simp only [World.size_alloc, World.size_drew]); omega)) | (with_reducible refine Bb.set ?_ rfl) | (with_reducible refine Bb.grown ?_ (by assumption) (by assumption))))
    · show Bb _ _ _ _; exact Bb.alloc (Bb.new (by simp)) _
    · show Bb _ _ _ _; exact Bb.new (by simp)
    · (repeat' (first | (with_reducible exact Below.refl _ _) | (with_reducible assumption) | (with_reducible refine Below.alloc ?_ ?_ _) | (with_reducible refine Below.drew ?_) | (with_reducible refine bdN ?_ _) | (with_reducible refine Below.setCell ?_ ?_ _) | (with_reducible refine chn ?_ (by assumption) ?_) | omega | (simp; done) | (simp; omega)))
  case round =>
    obtain ⟨j, hj, rfl, Rt, Rp, Rz, Rf, hB⟩ := hrel
    have hBs := hB.size
    cases gk with
    | zero =>
      obtain rfl : n = j := by omega
      have hlx : fnd zs (0, PX, PZ) n < 2 ^ n := fnd_lt zs _ n
      have hlz : fnd xs (0, PX, PZ) n < 2 ^ n := fnd_lt xs _ n
      have ct0 := Rt.out.c 0 rfl
      have ct1 := Rt.out.c 1 rfl
      have ct2 := Rt.out.c 2 rfl
      have cp0 := Rp.out.c 0 rfl
      have cp1 := Rp.out.c 1 rfl
      have cp2 := Rp.out.c 2 rfl
      have cz0 := Rz.out.c 0 rfl
      have cz1 := Rz.out.c 1 rfl
      have cz2 := Rz.out.c 2 rfl
      have lt := Rt.out.lt
      have lp := Rp.out.lt
      have lz := Rz.out.lt
      have cf0 := Rf.out.c 0 rfl
      have cf1 := Rf.out.c 1 rfl
      have cf2 := Rf.out.c 2 rfl
      have lf := Rf.out.lt
      go_wp2_with (fail)
      refine (iimg (xs := xs) (zs := zs) (p0 := 0) q5 (by decide) hlx hlz (HPH.out.kept (row := none) (grwB hB) (by simp)) ?_ ?_ OX.out OZ.out HR.out).mono ?_
      · exact HA.out.mono hB
      · exact HB.out.mono hB
      rintro ee w9 ⟨he, -, hb9⟩
      obtain rfl : ee = .returned (.agg #[.int .i64 (ph : Int), .int .i64 (IX : Int), .int .i64 (IZ : Int)]) := he
      have fl0 := fld0 (ph : Int) (IX : Int) (IZ : Int)
      have hB9 : Below w.heap.size w w9 := chn hB hb9 hBs
      clear ct0 ct1 ct2 cp0 cp1 cp2 cz0 cz1 cz2 cf0 cf1 cf2 lt lp lz lf 
      have N1 := lay (Rz.out.mono hb9)
      have N2 := lay (Rf.out.mono hb9)
      clear hb9
      have cz0 := N1.out.c 0 rfl
      have cz1 := N1.out.c 1 rfl
      have cz2 := N1.out.c 2 rfl
      have lz := N1.out.lt
      have fz := N1.out.f
      have cf0 := N2.out.c 0 rfl
      have cf1 := N2.out.c 1 rfl
      have cf2 := N2.out.c 2 rfl
      have lf := N2.out.lt
      have ff := N2.out.f
      go_upto_region 11 with (fail)
      (repeat (first | go_values | go_skip | go_guarded | go_step | go_upon))
      refine bodyPost_ret (v := pA ph (fnd zs (0, PX, PZ) n) (fnd xs (0, PX, PZ) n)) (by first | (simp [results, Try.results101, go_sem, *]; done) | (simp (disch := (first | omega | (simp; done) | (simp; omega))) [results, Try.results101, go_sem, *]; done) | (simp only [results, Try.results101]; go_simp; done)) rfl ⟨rfl, ?_⟩
      (repeat' (first | (with_reducible exact Below.refl _ _) | (with_reducible assumption) | (with_reducible refine Below.alloc ?_ ?_ _) | (with_reducible refine Below.drew ?_) | (with_reducible refine bdN ?_ _) | (with_reducible refine Below.setCell ?_ ?_ _) | (with_reducible refine chn ?_ (by assumption) ?_) | omega | (simp; done) | (simp; omega)))
    | succ m =>
      have hlt : j < n := by omega
      have hj5 : j < 5 := by omega
      have jl : (j : Int) < (n : Int) := by omega
      have e1 := pw_w (show j ≤ 5 by omega)
      have e2 := pw_k (show j ≤ 5 by omega)
      have a1 : IntKind.i64.wrap ((j : Int)) = (j : Int) := IntWalk.i64_in _ (by omega)
      have hz32 : fnd zs (0, PX, PZ) j < 32 := fnd_32 zs _ q5 (by omega)
      have hx32 : fnd xs (0, PX, PZ) j < 32 := fnd_32 xs _ q5 (by omega)
      obtain ⟨pX, aX, bX, hx, pX3, aX2, bX2, nX⟩ := okL_at OX.out hlt
      obtain ⟨pZ, aZ, bZ, hz, pZ3, aZ2, bZ2, nZ⟩ := okL_at OZ.out hlt
      obtain ⟨gX, oX, rfl, hgX, hcX⟩ := HA.out.atPauli hx
      obtain ⟨gZ, oZ, rfl, hgZ, hcZ⟩ := HB.out.atPauli hz
      have HEX := lay hcX
      have HEZ := lay hcZ
      clear hx hz hcX hcZ
      have ct0 := Rt.out.c 0 rfl
      have ct1 := Rt.out.c 1 rfl
      have ct2 := Rt.out.c 2 rfl
      have cp0 := Rp.out.c 0 rfl
      have cp1 := Rp.out.c 1 rfl
      have cp2 := Rp.out.c 2 rfl
      have cz0 := Rz.out.c 0 rfl
      have cz1 := Rz.out.c 1 rfl
      have cz2 := Rz.out.c 2 rfl
      have lt := Rt.out.lt
      have lp := Rp.out.lt
      have lz := Rz.out.lt
      have cf0 := Rf.out.c 0 rfl
      have cf1 := Rf.out.c 1 rfl
      have cf2 := Rf.out.c 2 rfl
      have lf := Rf.out.lt
      cases hcz : acB PX PZ aZ bZ
      · cases hcx : acB PX PZ aX bX
        · skip
          have HCZ : Hid (acB PX PZ aZ bZ = false) := hcz
          have HCX : Hid (acB PX PZ aX bX = false) := hcx
          clear hcz hcx
          have eZ0 : wr.cell? ⟨gZ, oZ + j * 3, none⟩ = some (.int .i64 (pZ : Int)) := (World.cell?_of_block (hB.block gZ hgZ)).trans HEZ.out.1
          have eZ1 : wr.cell? ⟨gZ, oZ + j * 3 + 1, none⟩ = some (.int .i64 (aZ : Int)) := (World.cell?_of_block (hB.block gZ hgZ)).trans HEZ.out.2.1
          have eZ2 : wr.cell? ⟨gZ, oZ + j * 3 + 2, none⟩ = some (.int .i64 (bZ : Int)) := (World.cell?_of_block (hB.block gZ hgZ)).trans HEZ.out.2.2
          go_upto_region 5 with (fail)
          have yct0 : wr.drew.cell? ⟨w.heap.size, 0, none⟩ = some (.int .i64 (n : Int)) := ct0
          have yct1 : wr.drew.cell? ⟨w.heap.size, 1, none⟩ = some (.slice (some ⟨gX, oX, none⟩) n c1) := ct1
          have yct2 : wr.drew.cell? ⟨w.heap.size, 2, none⟩ = some (.slice (some ⟨gZ, oZ, none⟩) n c2) := ct2
          have ycp0 : wr.drew.cell? ⟨w.heap.size + 1, 0, none⟩ = some (.int .i64 0) := cp0
          have ycp1 : wr.drew.cell? ⟨w.heap.size + 1, 1, none⟩ = some (.int .i64 (PX : Int)) := cp1
          have ycp2 : wr.drew.cell? ⟨w.heap.size + 1, 2, none⟩ = some (.int .i64 (PZ : Int)) := cp2
          have yeZ0 : wr.drew.cell? ⟨gZ, oZ + j * 3, none⟩ = some (.int .i64 (pZ : Int)) := eZ0
          have yeZ1 : wr.drew.cell? ⟨gZ, oZ + j * 3 + 1, none⟩ = some (.int .i64 (aZ : Int)) := eZ1
          have yeZ2 : wr.drew.cell? ⟨gZ, oZ + j * 3 + 2, none⟩ = some (.int .i64 (bZ : Int)) := eZ2
          refine wp_region_x (fun w' => w'.cell? ⟨w.heap.size, 0, none⟩ = some (.int .i64 (n : Int)) ∧ w'.cell? ⟨w.heap.size, 1, none⟩ = some (.slice (some ⟨gX, oX, none⟩) n c1) ∧ w'.cell? ⟨w.heap.size, 2, none⟩ = some (.slice (some ⟨gZ, oZ, none⟩) n c2) ∧ w'.cell? ⟨w.heap.size + 1, 0, none⟩ = some (.int .i64 0) ∧ w'.cell? ⟨w.heap.size + 1, 1, none⟩ = some (.int .i64 (PX : Int)) ∧ w'.cell? ⟨w.heap.size + 1, 2, none⟩ = some (.int .i64 (PZ : Int)) ∧ w'.cell? ⟨gZ, oZ + j * 3, none⟩ = some (.int .i64 (pZ : Int)) ∧ w'.cell? ⟨gZ, oZ + j * 3 + 1, none⟩ = some (.int .i64 (aZ : Int)) ∧ w'.cell? ⟨gZ, oZ + j * 3 + 2, none⟩ = some (.int .i64 (bZ : Int))) 1000 (by kernel_rfl) ⟨yct0, yct1, yct2, ycp0, ycp1, ycp2, yeZ0, yeZ1, yeZ2⟩ (fun hS0 => ?_)
          refine wpAnyX_take (i := 0) (oi := _) (v := ?_) rfl (by kernel_rfl) (by kernel_rfl) (by kernel_rfl) (by kernel_rfl) (fun _ _ _ h => h) (Or.inl ⟨by rfl, ?_⟩) hS0 ?_
          rotate_left 1
          · (intro w hSw; (try dsimp only at hSw); go_simp; (try with_reducible rfl))
          try simp only [Act.put, List.setIfInBounds_toArray, List.set_cons_zero, List.set_cons_succ]
          refine wpAnyX_take (i := 1) (oi := _) (v := ?_) rfl (by kernel_rfl) (by kernel_rfl) (by kernel_rfl) (by kernel_rfl) (fun _ _ _ h => h) (Or.inl ⟨by rfl, ?_⟩) hS0 ?_
          rotate_left 1
          · (intro w hSw; (try dsimp only at hSw); go_simp; (try with_reducible rfl))
          try simp only [Act.put, List.setIfInBounds_toArray, List.set_cons_zero, List.set_cons_succ]
          refine wpAnyX_take (i := 2) (oi := _) (v := ?_) rfl (by kernel_rfl) (by kernel_rfl) (by kernel_rfl) (by kernel_rfl) (fun _ _ _ h => h) (Or.inl ⟨by rfl, ?_⟩) hS0 ?_
          rotate_left 1
          · (intro w hSw; (try dsimp only at hSw); go_simp; (try with_reducible rfl))
          try simp only [Act.put, List.setIfInBounds_toArray, List.set_cons_zero, List.set_cons_succ]
          refine wpAnyX_take (i := 3) (oi := _) (v := ?_) rfl (by kernel_rfl) (by kernel_rfl) (by kernel_rfl) (by kernel_rfl) (fun _ _ _ h => h) (Or.inl ⟨by rfl, ?_⟩) hS0 ?_
          rotate_left 1
          · (intro w hSw; (try dsimp only at hSw); go_simp; (try with_reducible rfl))
          try simp only [Act.put, List.setIfInBounds_toArray, List.set_cons_zero, List.set_cons_succ]
          refine wpAnyX_take (i := 4) (oi := _) (v := ?_) rfl (by kernel_rfl) (by kernel_rfl) (by kernel_rfl) (by kernel_rfl) (fun _ _ _ h => h) (Or.inl ⟨by rfl, ?_⟩) hS0 ?_
          rotate_left 1
          · (intro w hSw; (try dsimp only at hSw); go_simp; (try with_reducible rfl))
          try simp only [Act.put, List.setIfInBounds_toArray, List.set_cons_zero, List.set_cons_succ]
          refine wpAnyX_take (i := 5) (oi := _) (v := ?_) rfl (by kernel_rfl) (by kernel_rfl) (by kernel_rfl) (by kernel_rfl) (fun _ _ _ h => h) (Or.inl ⟨by rfl, ?_⟩) hS0 ?_
          rotate_left 1
          · (intro w hSw; (try dsimp only at hSw); go_simp; (try with_reducible rfl))
          change wpAnyX _ _ _ _ _ _ _ _ (Act.put _ (some 19) _) _
          try simp only [Act.put, List.setIfInBounds_toArray, List.set_cons_zero, List.set_cons_succ]
          refine wpAnyX_one (i := 6) (o := _) rfl (by kernel_rfl) (fun K hK => ?_)
          go_simp
          refine (acm (pa := 0) (pb := (pZ : Int)) (p32 q5 H1.out) (p32 q5 H2.out) (p32 q5 aZ2) (p32 q5 bZ2) (t := false) HCZ.out _).mono ?_
          rintro ee w5 ⟨rfl, hb9⟩
          have kw5 : Below wr.heap.size wr w5 := ⟨hb9.os, hb9.tape, hb9.output, hb9.size, hb9.block⟩
          refine hK.out _ _ (fun _ => ?_) (fun hS1 => ?_)
          · exact ⟨kcl hb9 (hS0.1), kcl hb9 (hS0.2.1), kcl hb9 (hS0.2.2.1), kcl hb9 (hS0.2.2.2.1), kcl hb9 (hS0.2.2.2.2.1), kcl hb9 (hS0.2.2.2.2.2.1), kcl hb9 (hS0.2.2.2.2.2.2.1), kcl hb9 (hS0.2.2.2.2.2.2.2.1), kcl hb9 (hS0.2.2.2.2.2.2.2.2)⟩
          clear hK K
          have hS1 := hS1 (by decide)
          try simp only [Act.put, List.setIfInBounds_toArray, List.set_cons_zero, List.set_cons_succ]
          refine wpAnyX_done (by kernel_rfl) ?_ _
          clear hb9 hS0 hS1 eZ0 eZ1 eZ2
          have hB5 : Below w.heap.size w w5 := chn hB kw5 hBs
          clear ct0 ct1 ct2 cp0 cp1 cp2 cz0 cz1 cz2 cf0 cf1 cf2 lt lp lz lf 
          have St : Hid (Bb w5 (w.heap.size) 53 #[.int .i64 (n : Int), .slice (some ⟨gX, oX, none⟩) n c1, .slice (some ⟨gZ, oZ, none⟩) n c2]) := Rt.out.mono kw5
          have Sp : Hid (Bb w5 (w.heap.size + 1) 43 #[.int .i64 0, .int .i64 (PX : Int), .int .i64 (PZ : Int)]) := Rp.out.mono kw5
          have Sz : Hid (Bb w5 (w.heap.size + 1 + 1) 43 #[.int .i64 0, .int .i64 0, .int .i64 0]) := Rz.out.mono kw5
          have Sf : Hid (Bb w5 (w.heap.size + 1 + 1 + 1) 43 #[.int .i64 0, .int .i64 ((fnd zs (0, PX, PZ) j : Nat) : Int), .int .i64 ((fnd xs (0, PX, PZ) j : Nat) : Int)]) := Rf.out.mono kw5
          have ct0 := St.out.c 0 rfl
          have ct1 := St.out.c 1 rfl
          have ct2 := St.out.c 2 rfl
          have cp0 := Sp.out.c 0 rfl
          have cp1 := Sp.out.c 1 rfl
          have cp2 := Sp.out.c 2 rfl
          have cz0 := Sz.out.c 0 rfl
          have cz1 := Sz.out.c 1 rfl
          have cz2 := Sz.out.c 2 rfl
          have lt := St.out.lt
          have lp := Sp.out.lt
          have lz := Sz.out.lt
          have cf0 := Sf.out.c 0 rfl
          have cf1 := Sf.out.c 1 rfl
          have cf2 := Sf.out.c 2 rfl
          have lf := Sf.out.lt
          have eX0 : w5.cell? ⟨gX, oX + j * 3, none⟩ = some (.int .i64 (pX : Int)) := (World.cell?_of_block (hB5.block gX hgX)).trans HEX.out.1
          have eX1 : w5.cell? ⟨gX, oX + j * 3 + 1, none⟩ = some (.int .i64 (aX : Int)) := (World.cell?_of_block (hB5.block gX hgX)).trans HEX.out.2.1
          have eX2 : w5.cell? ⟨gX, oX + j * 3 + 2, none⟩ = some (.int .i64 (bX : Int)) := (World.cell?_of_block (hB5.block gX hgX)).trans HEX.out.2.2
          go_upto_region 7 with (fail)
          have yct0 : w5.drew.cell? ⟨w.heap.size, 0, none⟩ = some (.int .i64 (n : Int)) := ct0
          have yct1 : w5.drew.cell? ⟨w.heap.size, 1, none⟩ = some (.slice (some ⟨gX, oX, none⟩) n c1) := ct1
          have yct2 : w5.drew.cell? ⟨w.heap.size, 2, none⟩ = some (.slice (some ⟨gZ, oZ, none⟩) n c2) := ct2
          have ycp0 : w5.drew.cell? ⟨w.heap.size + 1, 0, none⟩ = some (.int .i64 0) := cp0
          have ycp1 : w5.drew.cell? ⟨w.heap.size + 1, 1, none⟩ = some (.int .i64 (PX : Int)) := cp1
          have ycp2 : w5.drew.cell? ⟨w.heap.size + 1, 2, none⟩ = some (.int .i64 (PZ : Int)) := cp2
          have yeX0 : w5.drew.cell? ⟨gX, oX + j * 3, none⟩ = some (.int .i64 (pX : Int)) := eX0
          have yeX1 : w5.drew.cell? ⟨gX, oX + j * 3 + 1, none⟩ = some (.int .i64 (aX : Int)) := eX1
          have yeX2 : w5.drew.cell? ⟨gX, oX + j * 3 + 2, none⟩ = some (.int .i64 (bX : Int)) := eX2
          refine wp_region_x (fun w' => w'.cell? ⟨w.heap.size, 0, none⟩ = some (.int .i64 (n : Int)) ∧ w'.cell? ⟨w.heap.size, 1, none⟩ = some (.slice (some ⟨gX, oX, none⟩) n c1) ∧ w'.cell? ⟨w.heap.size, 2, none⟩ = some (.slice (some ⟨gZ, oZ, none⟩) n c2) ∧ w'.cell? ⟨w.heap.size + 1, 0, none⟩ = some (.int .i64 0) ∧ w'.cell? ⟨w.heap.size + 1, 1, none⟩ = some (.int .i64 (PX : Int)) ∧ w'.cell? ⟨w.heap.size + 1, 2, none⟩ = some (.int .i64 (PZ : Int)) ∧ w'.cell? ⟨gX, oX + j * 3, none⟩ = some (.int .i64 (pX : Int)) ∧ w'.cell? ⟨gX, oX + j * 3 + 1, none⟩ = some (.int .i64 (aX : Int)) ∧ w'.cell? ⟨gX, oX + j * 3 + 2, none⟩ = some (.int .i64 (bX : Int))) 1000 (by kernel_rfl) ⟨yct0, yct1, yct2, ycp0, ycp1, ycp2, yeX0, yeX1, yeX2⟩ (fun hS0 => ?_)
          refine wpAnyX_take (i := 0) (oi := _) (v := ?_) rfl (by kernel_rfl) (by kernel_rfl) (by kernel_rfl) (by kernel_rfl) (fun _ _ _ h => h) (Or.inl ⟨by rfl, ?_⟩) hS0 ?_
          rotate_left 1
          · (intro w hSw; (try dsimp only at hSw); go_simp; (try with_reducible rfl))
          try simp only [Act.put, List.setIfInBounds_toArray, List.set_cons_zero, List.set_cons_succ]
          refine wpAnyX_take (i := 1) (oi := _) (v := ?_) rfl (by kernel_rfl) (by kernel_rfl) (by kernel_rfl) (by kernel_rfl) (fun _ _ _ h => h) (Or.inl ⟨by rfl, ?_⟩) hS0 ?_
          rotate_left 1
          · (intro w hSw; (try dsimp only at hSw); go_simp; (try with_reducible rfl))
          try simp only [Act.put, List.setIfInBounds_toArray, List.set_cons_zero, List.set_cons_succ]
          refine wpAnyX_take (i := 2) (oi := _) (v := ?_) rfl (by kernel_rfl) (by kernel_rfl) (by kernel_rfl) (by kernel_rfl) (fun _ _ _ h => h) (Or.inl ⟨by rfl, ?_⟩) hS0 ?_
          rotate_left 1
          · (intro w hSw; (try dsimp only at hSw); go_simp; (try with_reducible rfl))
          try simp only [Act.put, List.setIfInBounds_toArray, List.set_cons_zero, List.set_cons_succ]
          refine wpAnyX_take (i := 3) (oi := _) (v := ?_) rfl (by kernel_rfl) (by kernel_rfl) (by kernel_rfl) (by kernel_rfl) (fun _ _ _ h => h) (Or.inl ⟨by rfl, ?_⟩) hS0 ?_
          rotate_left 1
          · (intro w hSw; (try dsimp only at hSw); go_simp; (try with_reducible rfl))
          try simp only [Act.put, List.setIfInBounds_toArray, List.set_cons_zero, List.set_cons_succ]
          refine wpAnyX_take (i := 4) (oi := _) (v := ?_) rfl (by kernel_rfl) (by kernel_rfl) (by kernel_rfl) (by kernel_rfl) (fun _ _ _ h => h) (Or.inl ⟨by rfl, ?_⟩) hS0 ?_
          rotate_left 1
          · (intro w hSw; (try dsimp only at hSw); go_simp; (try with_reducible rfl))
          try simp only [Act.put, List.setIfInBounds_toArray, List.set_cons_zero, List.set_cons_succ]
          refine wpAnyX_take (i := 5) (oi := _) (v := ?_) rfl (by kernel_rfl) (by kernel_rfl) (by kernel_rfl) (by kernel_rfl) (fun _ _ _ h => h) (Or.inl ⟨by rfl, ?_⟩) hS0 ?_
          rotate_left 1
          · (intro w hSw; (try dsimp only at hSw); go_simp; (try with_reducible rfl))
          change wpAnyX _ _ _ _ _ _ _ _ (Act.put _ (some 32) _) _
          try simp only [Act.put, List.setIfInBounds_toArray, List.set_cons_zero, List.set_cons_succ]
          refine wpAnyX_one (i := 6) (o := _) rfl (by kernel_rfl) (fun K hK => ?_)
          go_simp
          refine (acm (pa := 0) (pb := (pX : Int)) (p32 q5 H1.out) (p32 q5 H2.out) (p32 q5 aX2) (p32 q5 bX2) (t := false) HCX.out _).mono ?_
          rintro ee w7 ⟨rfl, hb9⟩
          have kw7 : Below w5.heap.size w5 w7 := ⟨hb9.os, hb9.tape, hb9.output, hb9.size, hb9.block⟩
          refine hK.out _ _ (fun _ => ?_) (fun hS1 => ?_)
          · exact ⟨kcl hb9 (hS0.1), kcl hb9 (hS0.2.1), kcl hb9 (hS0.2.2.1), kcl hb9 (hS0.2.2.2.1), kcl hb9 (hS0.2.2.2.2.1), kcl hb9 (hS0.2.2.2.2.2.1), kcl hb9 (hS0.2.2.2.2.2.2.1), kcl hb9 (hS0.2.2.2.2.2.2.2.1), kcl hb9 (hS0.2.2.2.2.2.2.2.2)⟩
          clear hK K
          have hS1 := hS1 (by decide)
          try simp only [Act.put, List.setIfInBounds_toArray, List.set_cons_zero, List.set_cons_succ]
          refine wpAnyX_done (by kernel_rfl) ?_ _
          clear hb9 hS0 hS1 eX0 eX1 eX2
          have hB7 : Below w.heap.size w w7 := chn hB5 kw7 hB5.size
          clear ct0 ct1 ct2 cp0 cp1 cp2 cz0 cz1 cz2 cf0 cf1 cf2 lt lp lz lf 
          have Mt : Hid (Bb w7 (w.heap.size) 53 #[.int .i64 (n : Int), .slice (some ⟨gX, oX, none⟩) n c1, .slice (some ⟨gZ, oZ, none⟩) n c2]) := St.out.mono kw7
          have Mp : Hid (Bb w7 (w.heap.size + 1) 43 #[.int .i64 0, .int .i64 (PX : Int), .int .i64 (PZ : Int)]) := Sp.out.mono kw7
          have Mz : Hid (Bb w7 (w.heap.size + 1 + 1) 43 #[.int .i64 0, .int .i64 0, .int .i64 0]) := Sz.out.mono kw7
          have Mf : Hid (Bb w7 (w.heap.size + 1 + 1 + 1) 43 #[.int .i64 0, .int .i64 ((fnd zs (0, PX, PZ) j : Nat) : Int), .int .i64 ((fnd xs (0, PX, PZ) j : Nat) : Int)]) := Sf.out.mono kw7
          go_wp2_with (fail)
          go_roundg m
          case measure => omega
          case rel =>
            refine ⟨j + 1, by omega, by go_num, ?_, ?_, ?_, ?_, ?_⟩
            · show Bb _ _ _ _; exact Mt.out
            · show Bb _ _ _ _; exact Mp.out
            · show Bb _ _ _ _; exact Mz.out
            · have E1 : fnd zs (0, PX, PZ) (j + 1) = fnd zs (0, PX, PZ) j := fnd_f nZ HCZ.out
              have E2 : fnd xs (0, PX, PZ) (j + 1) = fnd xs (0, PX, PZ) j := fnd_f nX HCX.out
              show Bb _ _ _ _; rw [E1, E2]; exact Mf.out
            · (repeat' (first | (with_reducible exact Below.refl _ _) | (with_reducible assumption) | (with_reducible refine Below.alloc ?_ ?_ _) | (with_reducible refine Below.drew ?_) | (with_reducible refine bdN ?_ _) | (with_reducible refine Below.setCell ?_ ?_ _) | (with_reducible refine chn ?_ (by assumption) ?_) | omega | (simp; done) | (simp; omega)))
        · skip
          have HCZ : Hid (acB PX PZ aZ bZ = false) := hcz
          have HCX : Hid (acB PX PZ aX bX = true) := hcx
          clear hcz hcx
          have eZ0 : wr.cell? ⟨gZ, oZ + j * 3, none⟩ = some (.int .i64 (pZ : Int)) := (World.cell?_of_block (hB.block gZ hgZ)).trans HEZ.out.1
          have eZ1 : wr.cell? ⟨gZ, oZ + j * 3 + 1, none⟩ = some (.int .i64 (aZ : Int)) := (World.cell?_of_block (hB.block gZ hgZ)).trans HEZ.out.2.1
          have eZ2 : wr.cell? ⟨gZ, oZ + j * 3 + 2, none⟩ = some (.int .i64 (bZ : Int)) := (World.cell?_of_block (hB.block gZ hgZ)).trans HEZ.out.2.2
          go_upto_region 5 with (fail)
          have yct0 : wr.drew.cell? ⟨w.heap.size, 0, none⟩ = some (.int .i64 (n : Int)) := ct0
          have yct1 : wr.drew.cell? ⟨w.heap.size, 1, none⟩ = some (.slice (some ⟨gX, oX, none⟩) n c1) := ct1
          have yct2 : wr.drew.cell? ⟨w.heap.size, 2, none⟩ = some (.slice (some ⟨gZ, oZ, none⟩) n c2) := ct2
          have ycp0 : wr.drew.cell? ⟨w.heap.size + 1, 0, none⟩ = some (.int .i64 0) := cp0
          have ycp1 : wr.drew.cell? ⟨w.heap.size + 1, 1, none⟩ = some (.int .i64 (PX : Int)) := cp1
          have ycp2 : wr.drew.cell? ⟨w.heap.size + 1, 2, none⟩ = some (.int .i64 (PZ : Int)) := cp2
          have yeZ0 : wr.drew.cell? ⟨gZ, oZ + j * 3, none⟩ = some (.int .i64 (pZ : Int)) := eZ0
          have yeZ1 : wr.drew.cell? ⟨gZ, oZ + j * 3 + 1, none⟩ = some (.int .i64 (aZ : Int)) := eZ1
          have yeZ2 : wr.drew.cell? ⟨gZ, oZ + j * 3 + 2, none⟩ = some (.int .i64 (bZ : Int)) := eZ2
          refine wp_region_x (fun w' => w'.cell? ⟨w.heap.size, 0, none⟩ = some (.int .i64 (n : Int)) ∧ w'.cell? ⟨w.heap.size, 1, none⟩ = some (.slice (some ⟨gX, oX, none⟩) n c1) ∧ w'.cell? ⟨w.heap.size, 2, none⟩ = some (.slice (some ⟨gZ, oZ, none⟩) n c2) ∧ w'.cell? ⟨w.heap.size + 1, 0, none⟩ = some (.int .i64 0) ∧ w'.cell? ⟨w.heap.size + 1, 1, none⟩ = some (.int .i64 (PX : Int)) ∧ w'.cell? ⟨w.heap.size + 1, 2, none⟩ = some (.int .i64 (PZ : Int)) ∧ w'.cell? ⟨gZ, oZ + j * 3, none⟩ = some (.int .i64 (pZ : Int)) ∧ w'.cell? ⟨gZ, oZ + j * 3 + 1, none⟩ = some (.int .i64 (aZ : Int)) ∧ w'.cell? ⟨gZ, oZ + j * 3 + 2, none⟩ = some (.int .i64 (bZ : Int))) 1000 (by kernel_rfl) ⟨yct0, yct1, yct2, ycp0, ycp1, ycp2, yeZ0, yeZ1, yeZ2⟩ (fun hS0 => ?_)
          refine wpAnyX_take (i := 0) (oi := _) (v := ?_) rfl (by kernel_rfl) (by kernel_rfl) (by kernel_rfl) (by kernel_rfl) (fun _ _ _ h => h) (Or.inl ⟨by rfl, ?_⟩) hS0 ?_
          rotate_left 1
          · (intro w hSw; (try dsimp only at hSw); go_simp; (try with_reducible rfl))
          try simp only [Act.put, List.setIfInBounds_toArray, List.set_cons_zero, List.set_cons_succ]
          refine wpAnyX_take (i := 1) (oi := _) (v := ?_) rfl (by kernel_rfl) (by kernel_rfl) (by kernel_rfl) (by kernel_rfl) (fun _ _ _ h => h) (Or.inl ⟨by rfl, ?_⟩) hS0 ?_
          rotate_left 1
          · (intro w hSw; (try dsimp only at hSw); go_simp; (try with_reducible rfl))
          try simp only [Act.put, List.setIfInBounds_toArray, List.set_cons_zero, List.set_cons_succ]
          refine wpAnyX_take (i := 2) (oi := _) (v := ?_) rfl (by kernel_rfl) (by kernel_rfl) (by kernel_rfl) (by kernel_rfl) (fun _ _ _ h => h) (Or.inl ⟨by rfl, ?_⟩) hS0 ?_
          rotate_left 1
          · (intro w hSw; (try dsimp only at hSw); go_simp; (try with_reducible rfl))
          try simp only [Act.put, List.setIfInBounds_toArray, List.set_cons_zero, List.set_cons_succ]
          refine wpAnyX_take (i := 3) (oi := _) (v := ?_) rfl (by kernel_rfl) (by kernel_rfl) (by kernel_rfl) (by kernel_rfl) (fun _ _ _ h => h) (Or.inl ⟨by rfl, ?_⟩) hS0 ?_
          rotate_left 1
          · (intro w hSw; (try dsimp only at hSw); go_simp; (try with_reducible rfl))
          try simp only [Act.put, List.setIfInBounds_toArray, List.set_cons_zero, List.set_cons_succ]
          refine wpAnyX_take (i := 4) (oi := _) (v := ?_) rfl (by kernel_rfl) (by kernel_rfl) (by kernel_rfl) (by kernel_rfl) (fun _ _ _ h => h) (Or.inl ⟨by rfl, ?_⟩) hS0 ?_
          rotate_left 1
          · (intro w hSw; (try dsimp only at hSw); go_simp; (try with_reducible rfl))
          try simp only [Act.put, List.setIfInBounds_toArray, List.set_cons_zero, List.set_cons_succ]
          refine wpAnyX_take (i := 5) (oi := _) (v := ?_) rfl (by kernel_rfl) (by kernel_rfl) (by kernel_rfl) (by kernel_rfl) (fun _ _ _ h => h) (Or.inl ⟨by rfl, ?_⟩) hS0 ?_
          rotate_left 1
          · (intro w hSw; (try dsimp only at hSw); go_simp; (try with_reducible rfl))
          change wpAnyX _ _ _ _ _ _ _ _ (Act.put _ (some 19) _) _
          try simp only [Act.put, List.setIfInBounds_toArray, List.set_cons_zero, List.set_cons_succ]
          refine wpAnyX_one (i := 6) (o := _) rfl (by kernel_rfl) (fun K hK => ?_)
          go_simp
          refine (acm (pa := 0) (pb := (pZ : Int)) (p32 q5 H1.out) (p32 q5 H2.out) (p32 q5 aZ2) (p32 q5 bZ2) (t := false) HCZ.out _).mono ?_
          rintro ee w5 ⟨rfl, hb9⟩
          have kw5 : Below wr.heap.size wr w5 := ⟨hb9.os, hb9.tape, hb9.output, hb9.size, hb9.block⟩
          refine hK.out _ _ (fun _ => ?_) (fun hS1 => ?_)
          · exact ⟨kcl hb9 (hS0.1), kcl hb9 (hS0.2.1), kcl hb9 (hS0.2.2.1), kcl hb9 (hS0.2.2.2.1), kcl hb9 (hS0.2.2.2.2.1), kcl hb9 (hS0.2.2.2.2.2.1), kcl hb9 (hS0.2.2.2.2.2.2.1), kcl hb9 (hS0.2.2.2.2.2.2.2.1), kcl hb9 (hS0.2.2.2.2.2.2.2.2)⟩
          clear hK K
          have hS1 := hS1 (by decide)
          try simp only [Act.put, List.setIfInBounds_toArray, List.set_cons_zero, List.set_cons_succ]
          refine wpAnyX_done (by kernel_rfl) ?_ _
          clear hb9 hS0 hS1 eZ0 eZ1 eZ2
          have hB5 : Below w.heap.size w w5 := chn hB kw5 hBs
          clear ct0 ct1 ct2 cp0 cp1 cp2 cz0 cz1 cz2 cf0 cf1 cf2 lt lp lz lf 
          have St : Hid (Bb w5 (w.heap.size) 53 #[.int .i64 (n : Int), .slice (some ⟨gX, oX, none⟩) n c1, .slice (some ⟨gZ, oZ, none⟩) n c2]) := Rt.out.mono kw5
          have Sp : Hid (Bb w5 (w.heap.size + 1) 43 #[.int .i64 0, .int .i64 (PX : Int), .int .i64 (PZ : Int)]) := Rp.out.mono kw5
          have Sz : Hid (Bb w5 (w.heap.size + 1 + 1) 43 #[.int .i64 0, .int .i64 0, .int .i64 0]) := Rz.out.mono kw5
          have Sf : Hid (Bb w5 (w.heap.size + 1 + 1 + 1) 43 #[.int .i64 0, .int .i64 ((fnd zs (0, PX, PZ) j : Nat) : Int), .int .i64 ((fnd xs (0, PX, PZ) j : Nat) : Int)]) := Rf.out.mono kw5
          have ct0 := St.out.c 0 rfl
          have ct1 := St.out.c 1 rfl
          have ct2 := St.out.c 2 rfl
          have cp0 := Sp.out.c 0 rfl
          have cp1 := Sp.out.c 1 rfl
          have cp2 := Sp.out.c 2 rfl
          have cz0 := Sz.out.c 0 rfl
          have cz1 := Sz.out.c 1 rfl
          have cz2 := Sz.out.c 2 rfl
          have lt := St.out.lt
          have lp := Sp.out.lt
          have lz := Sz.out.lt
          have cf0 := Sf.out.c 0 rfl
          have cf1 := Sf.out.c 1 rfl
          have cf2 := Sf.out.c 2 rfl
          have lf := Sf.out.lt
          have eX0 : w5.cell? ⟨gX, oX + j * 3, none⟩ = some (.int .i64 (pX : Int)) := (World.cell?_of_block (hB5.block gX hgX)).trans HEX.out.1
          have eX1 : w5.cell? ⟨gX, oX + j * 3 + 1, none⟩ = some (.int .i64 (aX : Int)) := (World.cell?_of_block (hB5.block gX hgX)).trans HEX.out.2.1
          have eX2 : w5.cell? ⟨gX, oX + j * 3 + 2, none⟩ = some (.int .i64 (bX : Int)) := (World.cell?_of_block (hB5.block gX hgX)).trans HEX.out.2.2
          go_upto_region 7 with (fail)
          have yct0 : w5.drew.cell? ⟨w.heap.size, 0, none⟩ = some (.int .i64 (n : Int)) := ct0
          have yct1 : w5.drew.cell? ⟨w.heap.size, 1, none⟩ = some (.slice (some ⟨gX, oX, none⟩) n c1) := ct1
          have yct2 : w5.drew.cell? ⟨w.heap.size, 2, none⟩ = some (.slice (some ⟨gZ, oZ, none⟩) n c2) := ct2
          have ycp0 : w5.drew.cell? ⟨w.heap.size + 1, 0, none⟩ = some (.int .i64 0) := cp0
          have ycp1 : w5.drew.cell? ⟨w.heap.size + 1, 1, none⟩ = some (.int .i64 (PX : Int)) := cp1
          have ycp2 : w5.drew.cell? ⟨w.heap.size + 1, 2, none⟩ = some (.int .i64 (PZ : Int)) := cp2
          have yeX0 : w5.drew.cell? ⟨gX, oX + j * 3, none⟩ = some (.int .i64 (pX : Int)) := eX0
          have yeX1 : w5.drew.cell? ⟨gX, oX + j * 3 + 1, none⟩ = some (.int .i64 (aX : Int)) := eX1
          have yeX2 : w5.drew.cell? ⟨gX, oX + j * 3 + 2, none⟩ = some (.int .i64 (bX : Int)) := eX2
          refine wp_region_x (fun w' => w'.cell? ⟨w.heap.size, 0, none⟩ = some (.int .i64 (n : Int)) ∧ w'.cell? ⟨w.heap.size, 1, none⟩ = some (.slice (some ⟨gX, oX, none⟩) n c1) ∧ w'.cell? ⟨w.heap.size, 2, none⟩ = some (.slice (some ⟨gZ, oZ, none⟩) n c2) ∧ w'.cell? ⟨w.heap.size + 1, 0, none⟩ = some (.int .i64 0) ∧ w'.cell? ⟨w.heap.size + 1, 1, none⟩ = some (.int .i64 (PX : Int)) ∧ w'.cell? ⟨w.heap.size + 1, 2, none⟩ = some (.int .i64 (PZ : Int)) ∧ w'.cell? ⟨gX, oX + j * 3, none⟩ = some (.int .i64 (pX : Int)) ∧ w'.cell? ⟨gX, oX + j * 3 + 1, none⟩ = some (.int .i64 (aX : Int)) ∧ w'.cell? ⟨gX, oX + j * 3 + 2, none⟩ = some (.int .i64 (bX : Int))) 1000 (by kernel_rfl) ⟨yct0, yct1, yct2, ycp0, ycp1, ycp2, yeX0, yeX1, yeX2⟩ (fun hS0 => ?_)
          refine wpAnyX_take (i := 0) (oi := _) (v := ?_) rfl (by kernel_rfl) (by kernel_rfl) (by kernel_rfl) (by kernel_rfl) (fun _ _ _ h => h) (Or.inl ⟨by rfl, ?_⟩) hS0 ?_
          rotate_left 1
          · (intro w hSw; (try dsimp only at hSw); go_simp; (try with_reducible rfl))
          try simp only [Act.put, List.setIfInBounds_toArray, List.set_cons_zero, List.set_cons_succ]
          refine wpAnyX_take (i := 1) (oi := _) (v := ?_) rfl (by kernel_rfl) (by kernel_rfl) (by kernel_rfl) (by kernel_rfl) (fun _ _ _ h => h) (Or.inl ⟨by rfl, ?_⟩) hS0 ?_
          rotate_left 1
          · (intro w hSw; (try dsimp only at hSw); go_simp; (try with_reducible rfl))
          try simp only [Act.put, List.setIfInBounds_toArray, List.set_cons_zero, List.set_cons_succ]
          refine wpAnyX_take (i := 2) (oi := _) (v := ?_) rfl (by kernel_rfl) (by kernel_rfl) (by kernel_rfl) (by kernel_rfl) (fun _ _ _ h => h) (Or.inl ⟨by rfl, ?_⟩) hS0 ?_
          rotate_left 1
          · (intro w hSw; (try dsimp only at hSw); go_simp; (try with_reducible rfl))
          try simp only [Act.put, List.setIfInBounds_toArray, List.set_cons_zero, List.set_cons_succ]
          refine wpAnyX_take (i := 3) (oi := _) (v := ?_) rfl (by kernel_rfl) (by kernel_rfl) (by kernel_rfl) (by kernel_rfl) (fun _ _ _ h => h) (Or.inl ⟨by rfl, ?_⟩) hS0 ?_
          rotate_left 1
          · (intro w hSw; (try dsimp only at hSw); go_simp; (try with_reducible rfl))
          try simp only [Act.put, List.setIfInBounds_toArray, List.set_cons_zero, List.set_cons_succ]
          refine wpAnyX_take (i := 4) (oi := _) (v := ?_) rfl (by kernel_rfl) (by kernel_rfl) (by kernel_rfl) (by kernel_rfl) (fun _ _ _ h => h) (Or.inl ⟨by rfl, ?_⟩) hS0 ?_
          rotate_left 1
          · (intro w hSw; (try dsimp only at hSw); go_simp; (try with_reducible rfl))
          try simp only [Act.put, List.setIfInBounds_toArray, List.set_cons_zero, List.set_cons_succ]
          refine wpAnyX_take (i := 5) (oi := _) (v := ?_) rfl (by kernel_rfl) (by kernel_rfl) (by kernel_rfl) (by kernel_rfl) (fun _ _ _ h => h) (Or.inl ⟨by rfl, ?_⟩) hS0 ?_
          rotate_left 1
          · (intro w hSw; (try dsimp only at hSw); go_simp; (try with_reducible rfl))
          change wpAnyX _ _ _ _ _ _ _ _ (Act.put _ (some 32) _) _
          try simp only [Act.put, List.setIfInBounds_toArray, List.set_cons_zero, List.set_cons_succ]
          refine wpAnyX_one (i := 6) (o := _) rfl (by kernel_rfl) (fun K hK => ?_)
          go_simp
          refine (acm (pa := 0) (pb := (pX : Int)) (p32 q5 H1.out) (p32 q5 H2.out) (p32 q5 aX2) (p32 q5 bX2) (t := true) HCX.out _).mono ?_
          rintro ee w7 ⟨rfl, hb9⟩
          have kw7 : Below w5.heap.size w5 w7 := ⟨hb9.os, hb9.tape, hb9.output, hb9.size, hb9.block⟩
          refine hK.out _ _ (fun _ => ?_) (fun hS1 => ?_)
          · exact ⟨kcl hb9 (hS0.1), kcl hb9 (hS0.2.1), kcl hb9 (hS0.2.2.1), kcl hb9 (hS0.2.2.2.1), kcl hb9 (hS0.2.2.2.2.1), kcl hb9 (hS0.2.2.2.2.2.1), kcl hb9 (hS0.2.2.2.2.2.2.1), kcl hb9 (hS0.2.2.2.2.2.2.2.1), kcl hb9 (hS0.2.2.2.2.2.2.2.2)⟩
          clear hK K
          have hS1 := hS1 (by decide)
          try simp only [Act.put, List.setIfInBounds_toArray, List.set_cons_zero, List.set_cons_succ]
          refine wpAnyX_done (by kernel_rfl) ?_ _
          clear hb9 hS0 hS1 eX0 eX1 eX2
          have hB7 : Below w.heap.size w w7 := chn hB5 kw7 hB5.size
          clear ct0 ct1 ct2 cp0 cp1 cp2 cz0 cz1 cz2 cf0 cf1 cf2 lt lp lz lf 
          have Mt : Hid (Bb w7 (w.heap.size) 53 #[.int .i64 (n : Int), .slice (some ⟨gX, oX, none⟩) n c1, .slice (some ⟨gZ, oZ, none⟩) n c2]) := St.out.mono kw7
          have Mp : Hid (Bb w7 (w.heap.size + 1) 43 #[.int .i64 0, .int .i64 (PX : Int), .int .i64 (PZ : Int)]) := Sp.out.mono kw7
          have Mz : Hid (Bb w7 (w.heap.size + 1 + 1) 43 #[.int .i64 0, .int .i64 0, .int .i64 0]) := Sz.out.mono kw7
          have Mf : Hid (Bb w7 (w.heap.size + 1 + 1 + 1) 43 #[.int .i64 0, .int .i64 ((fnd zs (0, PX, PZ) j : Nat) : Int), .int .i64 ((fnd xs (0, PX, PZ) j : Nat) : Int)]) := Sf.out.mono kw7
          have hn2 : fnd xs (0, PX, PZ) (j + 1) = fnd xs (0, PX, PZ) j ||| 2 ^ j := fnd_t nX HCX.out
          obtain ⟨u2, hu2⟩ : ∃ u, u = fnd xs (0, PX, PZ) (j + 1) := ⟨_, rfl⟩
          have o2 : bits .or .i64 ((fnd xs (0, PX, PZ) j : Nat) : Int) ((pw j : Nat) : Int) = (u2 : Int) := by rw [hu2, hn2]; exact bo2 hx32 hj5
          have U2 := lay hu2
          clear hn2 hu2
          have ct0 := Mt.out.c 0 rfl
          have ct1 := Mt.out.c 1 rfl
          have ct2 := Mt.out.c 2 rfl
          have cp0 := Mp.out.c 0 rfl
          have cp1 := Mp.out.c 1 rfl
          have cp2 := Mp.out.c 2 rfl
          have cz0 := Mz.out.c 0 rfl
          have cz1 := Mz.out.c 1 rfl
          have cz2 := Mz.out.c 2 rfl
          have lt := Mt.out.lt
          have lp := Mp.out.lt
          have lz := Mz.out.lt
          have cf0 := Mf.out.c 0 rfl
          have cf1 := Mf.out.c 1 rfl
          have cf2 := Mf.out.c 2 rfl
          have lf := Mf.out.lt
          have ff := Mf.out.f
          go_upto_region 8 with (fail)
          go_region
          go_wp2_with (fail)
          go_roundg m
          case measure => omega
          case rel =>
            refine ⟨j + 1, by omega, by go_num, ?_, ?_, ?_, ?_, ?_⟩
            · show Bb _ _ _ _; exact Mt.out.far (by omega)
            · show Bb _ _ _ _; exact Mp.out.far (by omega)
            · show Bb _ _ _ _; exact Mz.out.far (by omega)
            · have E1 : fnd zs (0, PX, PZ) (j + 1) = fnd zs (0, PX, PZ) j := fnd_f nZ HCZ.out
              have E2 : fnd xs (0, PX, PZ) (j + 1) = u2 := U2.out.symm
              show Bb _ _ _ _; rw [E1, E2]; exact Mf.out.set rfl
            · (repeat' (first | (with_reducible exact Below.refl _ _) | (with_reducible assumption) | (with_reducible refine Below.alloc ?_ ?_ _) | (with_reducible refine Below.drew ?_) | (with_reducible refine bdN ?_ _) | (with_reducible refine Below.setCell ?_ ?_ _) | (with_reducible refine chn ?_ (by assumption) ?_) | omega | (simp; done) | (simp; omega)))
      · cases hcx : acB PX PZ aX bX
        · skip
          have HCZ : Hid (acB PX PZ aZ bZ = true) := hcz
          have HCX : Hid (acB PX PZ aX bX = false) := hcx
          clear hcz hcx
          have eZ0 : wr.cell? ⟨gZ, oZ + j * 3, none⟩ = some (.int .i64 (pZ : Int)) := (World.cell?_of_block (hB.block gZ hgZ)).trans HEZ.out.1
          have eZ1 : wr.cell? ⟨gZ, oZ + j * 3 + 1, none⟩ = some (.int .i64 (aZ : Int)) := (World.cell?_of_block (hB.block gZ hgZ)).trans HEZ.out.2.1
          have eZ2 : wr.cell? ⟨gZ, oZ + j * 3 + 2, none⟩ = some (.int .i64 (bZ : Int)) := (World.cell?_of_block (hB.block gZ hgZ)).trans HEZ.out.2.2
          go_upto_region 5 with (fail)
          have yct0 : wr.drew.cell? ⟨w.heap.size, 0, none⟩ = some (.int .i64 (n : Int)) := ct0
          have yct1 : wr.drew.cell? ⟨w.heap.size, 1, none⟩ = some (.slice (some ⟨gX, oX, none⟩) n c1) := ct1
          have yct2 : wr.drew.cell? ⟨w.heap.size, 2, none⟩ = some (.slice (some ⟨gZ, oZ, none⟩) n c2) := ct2
          have ycp0 : wr.drew.cell? ⟨w.heap.size + 1, 0, none⟩ = some (.int .i64 0) := cp0
          have ycp1 : wr.drew.cell? ⟨w.heap.size + 1, 1, none⟩ = some (.int .i64 (PX : Int)) := cp1
          have ycp2 : wr.drew.cell? ⟨w.heap.size + 1, 2, none⟩ = some (.int .i64 (PZ : Int)) := cp2
          have yeZ0 : wr.drew.cell? ⟨gZ, oZ + j * 3, none⟩ = some (.int .i64 (pZ : Int)) := eZ0
          have yeZ1 : wr.drew.cell? ⟨gZ, oZ + j * 3 + 1, none⟩ = some (.int .i64 (aZ : Int)) := eZ1
          have yeZ2 : wr.drew.cell? ⟨gZ, oZ + j * 3 + 2, none⟩ = some (.int .i64 (bZ : Int)) := eZ2
          refine wp_region_x (fun w' => w'.cell? ⟨w.heap.size, 0, none⟩ = some (.int .i64 (n : Int)) ∧ w'.cell? ⟨w.heap.size, 1, none⟩ = some (.slice (some ⟨gX, oX, none⟩) n c1) ∧ w'.cell? ⟨w.heap.size, 2, none⟩ = some (.slice (some ⟨gZ, oZ, none⟩) n c2) ∧ w'.cell? ⟨w.heap.size + 1, 0, none⟩ = some (.int .i64 0) ∧ w'.cell? ⟨w.heap.size + 1, 1, none⟩ = some (.int .i64 (PX : Int)) ∧ w'.cell? ⟨w.heap.size + 1, 2, none⟩ = some (.int .i64 (PZ : Int)) ∧ w'.cell? ⟨gZ, oZ + j * 3, none⟩ = some (.int .i64 (pZ : Int)) ∧ w'.cell? ⟨gZ, oZ + j * 3 + 1, none⟩ = some (.int .i64 (aZ : Int)) ∧ w'.cell? ⟨gZ, oZ + j * 3 + 2, none⟩ = some (.int .i64 (bZ : Int))) 1000 (by kernel_rfl) ⟨yct0, yct1, yct2, ycp0, ycp1, ycp2, yeZ0, yeZ1, yeZ2⟩ (fun hS0 => ?_)
          refine wpAnyX_take (i := 0) (oi := _) (v := ?_) rfl (by kernel_rfl) (by kernel_rfl) (by kernel_rfl) (by kernel_rfl) (fun _ _ _ h => h) (Or.inl ⟨by rfl, ?_⟩) hS0 ?_
          rotate_left 1
          · (intro w hSw; (try dsimp only at hSw); go_simp; (try with_reducible rfl))
          try simp only [Act.put, List.setIfInBounds_toArray, List.set_cons_zero, List.set_cons_succ]
          refine wpAnyX_take (i := 1) (oi := _) (v := ?_) rfl (by kernel_rfl) (by kernel_rfl) (by kernel_rfl) (by kernel_rfl) (fun _ _ _ h => h) (Or.inl ⟨by rfl, ?_⟩) hS0 ?_
          rotate_left 1
          · (intro w hSw; (try dsimp only at hSw); go_simp; (try with_reducible rfl))
          try simp only [Act.put, List.setIfInBounds_toArray, List.set_cons_zero, List.set_cons_succ]
          refine wpAnyX_take (i := 2) (oi := _) (v := ?_) rfl (by kernel_rfl) (by kernel_rfl) (by kernel_rfl) (by kernel_rfl) (fun _ _ _ h => h) (Or.inl ⟨by rfl, ?_⟩) hS0 ?_
          rotate_left 1
          · (intro w hSw; (try dsimp only at hSw); go_simp; (try with_reducible rfl))
          try simp only [Act.put, List.setIfInBounds_toArray, List.set_cons_zero, List.set_cons_succ]
          refine wpAnyX_take (i := 3) (oi := _) (v := ?_) rfl (by kernel_rfl) (by kernel_rfl) (by kernel_rfl) (by kernel_rfl) (fun _ _ _ h => h) (Or.inl ⟨by rfl, ?_⟩) hS0 ?_
          rotate_left 1
          · (intro w hSw; (try dsimp only at hSw); go_simp; (try with_reducible rfl))
          try simp only [Act.put, List.setIfInBounds_toArray, List.set_cons_zero, List.set_cons_succ]
          refine wpAnyX_take (i := 4) (oi := _) (v := ?_) rfl (by kernel_rfl) (by kernel_rfl) (by kernel_rfl) (by kernel_rfl) (fun _ _ _ h => h) (Or.inl ⟨by rfl, ?_⟩) hS0 ?_
          rotate_left 1
          · (intro w hSw; (try dsimp only at hSw); go_simp; (try with_reducible rfl))
          try simp only [Act.put, List.setIfInBounds_toArray, List.set_cons_zero, List.set_cons_succ]
          refine wpAnyX_take (i := 5) (oi := _) (v := ?_) rfl (by kernel_rfl) (by kernel_rfl) (by kernel_rfl) (by kernel_rfl) (fun _ _ _ h => h) (Or.inl ⟨by rfl, ?_⟩) hS0 ?_
          rotate_left 1
          · (intro w hSw; (try dsimp only at hSw); go_simp; (try with_reducible rfl))
          change wpAnyX _ _ _ _ _ _ _ _ (Act.put _ (some 19) _) _
          try simp only [Act.put, List.setIfInBounds_toArray, List.set_cons_zero, List.set_cons_succ]
          refine wpAnyX_one (i := 6) (o := _) rfl (by kernel_rfl) (fun K hK => ?_)
          go_simp
          refine (acm (pa := 0) (pb := (pZ : Int)) (p32 q5 H1.out) (p32 q5 H2.out) (p32 q5 aZ2) (p32 q5 bZ2) (t := true) HCZ.out _).mono ?_
          rintro ee w5 ⟨rfl, hb9⟩
          have kw5 : Below wr.heap.size wr w5 := ⟨hb9.os, hb9.tape, hb9.output, hb9.size, hb9.block⟩
          refine hK.out _ _ (fun _ => ?_) (fun hS1 => ?_)
          · exact ⟨kcl hb9 (hS0.1), kcl hb9 (hS0.2.1), kcl hb9 (hS0.2.2.1), kcl hb9 (hS0.2.2.2.1), kcl hb9 (hS0.2.2.2.2.1), kcl hb9 (hS0.2.2.2.2.2.1), kcl hb9 (hS0.2.2.2.2.2.2.1), kcl hb9 (hS0.2.2.2.2.2.2.2.1), kcl hb9 (hS0.2.2.2.2.2.2.2.2)⟩
          clear hK K
          have hS1 := hS1 (by decide)
          try simp only [Act.put, List.setIfInBounds_toArray, List.set_cons_zero, List.set_cons_succ]
          refine wpAnyX_done (by kernel_rfl) ?_ _
          clear hb9 hS0 hS1 eZ0 eZ1 eZ2
          have hB5 : Below w.heap.size w w5 := chn hB kw5 hBs
          clear ct0 ct1 ct2 cp0 cp1 cp2 cz0 cz1 cz2 cf0 cf1 cf2 lt lp lz lf 
          have St : Hid (Bb w5 (w.heap.size) 53 #[.int .i64 (n : Int), .slice (some ⟨gX, oX, none⟩) n c1, .slice (some ⟨gZ, oZ, none⟩) n c2]) := Rt.out.mono kw5
          have Sp : Hid (Bb w5 (w.heap.size + 1) 43 #[.int .i64 0, .int .i64 (PX : Int), .int .i64 (PZ : Int)]) := Rp.out.mono kw5
          have Sz : Hid (Bb w5 (w.heap.size + 1 + 1) 43 #[.int .i64 0, .int .i64 0, .int .i64 0]) := Rz.out.mono kw5
          have Sf : Hid (Bb w5 (w.heap.size + 1 + 1 + 1) 43 #[.int .i64 0, .int .i64 ((fnd zs (0, PX, PZ) j : Nat) : Int), .int .i64 ((fnd xs (0, PX, PZ) j : Nat) : Int)]) := Rf.out.mono kw5
          have hn1 : fnd zs (0, PX, PZ) (j + 1) = fnd zs (0, PX, PZ) j ||| 2 ^ j := fnd_t nZ HCZ.out
          obtain ⟨u1, hu1⟩ : ∃ u, u = fnd zs (0, PX, PZ) (j + 1) := ⟨_, rfl⟩
          have o1 : bits .or .i64 ((fnd zs (0, PX, PZ) j : Nat) : Int) ((pw j : Nat) : Int) = (u1 : Int) := by rw [hu1, hn1]; exact bo2 hz32 hj5
          have U1 := lay hu1
          clear hn1 hu1
          have ct0 := St.out.c 0 rfl
          have ct1 := St.out.c 1 rfl
          have ct2 := St.out.c 2 rfl
          have cp0 := Sp.out.c 0 rfl
          have cp1 := Sp.out.c 1 rfl
          have cp2 := Sp.out.c 2 rfl
          have cz0 := Sz.out.c 0 rfl
          have cz1 := Sz.out.c 1 rfl
          have cz2 := Sz.out.c 2 rfl
          have lt := St.out.lt
          have lp := Sp.out.lt
          have lz := Sz.out.lt
          have cf0 := Sf.out.c 0 rfl
          have cf1 := Sf.out.c 1 rfl
          have cf2 := Sf.out.c 2 rfl
          have lf := Sf.out.lt
          have ff := Sf.out.f
          go_upto_region 6 with (fail)
          go_region
          go_upto_region 7 with (fail)
          obtain ⟨W6, hW⟩ : ∃ W : World, W = w5.setCell ⟨w.heap.size + 1 + 1 + 1, 1, none⟩ (.int .i64 (u1 : Int)) := ⟨_, rfl⟩
          have Tt : Hid (Bb W6 (w.heap.size) 53 #[.int .i64 (n : Int), .slice (some ⟨gX, oX, none⟩) n c1, .slice (some ⟨gZ, oZ, none⟩) n c2]) := by show Bb _ _ _ _; rw [hW]; exact St.out.far (by omega)
          have Tp : Hid (Bb W6 (w.heap.size + 1) 43 #[.int .i64 0, .int .i64 (PX : Int), .int .i64 (PZ : Int)]) := by show Bb _ _ _ _; rw [hW]; exact Sp.out.far (by omega)
          have Tz : Hid (Bb W6 (w.heap.size + 1 + 1) 43 #[.int .i64 0, .int .i64 0, .int .i64 0]) := by show Bb _ _ _ _; rw [hW]; exact Sz.out.far (by omega)
          have Tf : Hid (Bb W6 (w.heap.size + 1 + 1 + 1) 43 #[.int .i64 0, .int .i64 ((u1 : Nat) : Int), .int .i64 ((fnd xs (0, PX, PZ) j : Nat) : Int)]) := by show Bb _ _ _ _; rw [hW]; exact Sf.out.set rfl
          have hB6 : Below w.heap.size w W6 := by rw [hW]; exact Below.setCell hB5 (by show w.heap.size ≤ w.heap.size + 1 + 1 + 1; omega) _
          rw [← hW]
          clear hW
          clear ct0 ct1 ct2 cp0 cp1 cp2 cz0 cz1 cz2 cf0 cf1 cf2 lt lp lz lf ff
          have ct0 := Tt.out.c 0 rfl
          have ct1 := Tt.out.c 1 rfl
          have ct2 := Tt.out.c 2 rfl
          have cp0 := Tp.out.c 0 rfl
          have cp1 := Tp.out.c 1 rfl
          have cp2 := Tp.out.c 2 rfl
          have cz0 := Tz.out.c 0 rfl
          have cz1 := Tz.out.c 1 rfl
          have cz2 := Tz.out.c 2 rfl
          have lt := Tt.out.lt
          have lp := Tp.out.lt
          have lz := Tz.out.lt
          have cf0 := Tf.out.c 0 rfl
          have cf1 := Tf.out.c 1 rfl
          have cf2 := Tf.out.c 2 rfl
          have lf := Tf.out.lt
          have eX0 : W6.cell? ⟨gX, oX + j * 3, none⟩ = some (.int .i64 (pX : Int)) := (World.cell?_of_block (hB6.block gX hgX)).trans HEX.out.1
          have eX1 : W6.cell? ⟨gX, oX + j * 3 + 1, none⟩ = some (.int .i64 (aX : Int)) := (World.cell?_of_block (hB6.block gX hgX)).trans HEX.out.2.1
          have eX2 : W6.cell? ⟨gX, oX + j * 3 + 2, none⟩ = some (.int .i64 (bX : Int)) := (World.cell?_of_block (hB6.block gX hgX)).trans HEX.out.2.2
          go_upto_region 7 with (fail)
          have yct0 : W6.drew.cell? ⟨w.heap.size, 0, none⟩ = some (.int .i64 (n : Int)) := ct0
          have yct1 : W6.drew.cell? ⟨w.heap.size, 1, none⟩ = some (.slice (some ⟨gX, oX, none⟩) n c1) := ct1
          have yct2 : W6.drew.cell? ⟨w.heap.size, 2, none⟩ = some (.slice (some ⟨gZ, oZ, none⟩) n c2) := ct2
          have ycp0 : W6.drew.cell? ⟨w.heap.size + 1, 0, none⟩ = some (.int .i64 0) := cp0
          have ycp1 : W6.drew.cell? ⟨w.heap.size + 1, 1, none⟩ = some (.int .i64 (PX : Int)) := cp1
          have ycp2 : W6.drew.cell? ⟨w.heap.size + 1, 2, none⟩ = some (.int .i64 (PZ : Int)) := cp2
          have yeX0 : W6.drew.cell? ⟨gX, oX + j * 3, none⟩ = some (.int .i64 (pX : Int)) := eX0
          have yeX1 : W6.drew.cell? ⟨gX, oX + j * 3 + 1, none⟩ = some (.int .i64 (aX : Int)) := eX1
          have yeX2 : W6.drew.cell? ⟨gX, oX + j * 3 + 2, none⟩ = some (.int .i64 (bX : Int)) := eX2
          refine wp_region_x (fun w' => w'.cell? ⟨w.heap.size, 0, none⟩ = some (.int .i64 (n : Int)) ∧ w'.cell? ⟨w.heap.size, 1, none⟩ = some (.slice (some ⟨gX, oX, none⟩) n c1) ∧ w'.cell? ⟨w.heap.size, 2, none⟩ = some (.slice (some ⟨gZ, oZ, none⟩) n c2) ∧ w'.cell? ⟨w.heap.size + 1, 0, none⟩ = some (.int .i64 0) ∧ w'.cell? ⟨w.heap.size + 1, 1, none⟩ = some (.int .i64 (PX : Int)) ∧ w'.cell? ⟨w.heap.size + 1, 2, none⟩ = some (.int .i64 (PZ : Int)) ∧ w'.cell? ⟨gX, oX + j * 3, none⟩ = some (.int .i64 (pX : Int)) ∧ w'.cell? ⟨gX, oX + j * 3 + 1, none⟩ = some (.int .i64 (aX : Int)) ∧ w'.cell? ⟨gX, oX + j * 3 + 2, none⟩ = some (.int .i64 (bX : Int))) 1000 (by kernel_rfl) ⟨yct0, yct1, yct2, ycp0, ycp1, ycp2, yeX0, yeX1, yeX2⟩ (fun hS0 => ?_)
          refine wpAnyX_take (i := 0) (oi := _) (v := ?_) rfl (by kernel_rfl) (by kernel_rfl) (by kernel_rfl) (by kernel_rfl) (fun _ _ _ h => h) (Or.inl ⟨by rfl, ?_⟩) hS0 ?_
          rotate_left 1
          · (intro w hSw; (try dsimp only at hSw); go_simp; (try with_reducible rfl))
          try simp only [Act.put, List.setIfInBounds_toArray, List.set_cons_zero, List.set_cons_succ]
          refine wpAnyX_take (i := 1) (oi := _) (v := ?_) rfl (by kernel_rfl) (by kernel_rfl) (by kernel_rfl) (by kernel_rfl) (fun _ _ _ h => h) (Or.inl ⟨by rfl, ?_⟩) hS0 ?_
          rotate_left 1
          · (intro w hSw; (try dsimp only at hSw); go_simp; (try with_reducible rfl))
          try simp only [Act.put, List.setIfInBounds_toArray, List.set_cons_zero, List.set_cons_succ]
          refine wpAnyX_take (i := 2) (oi := _) (v := ?_) rfl (by kernel_rfl) (by kernel_rfl) (by kernel_rfl) (by kernel_rfl) (fun _ _ _ h => h) (Or.inl ⟨by rfl, ?_⟩) hS0 ?_
          rotate_left 1
          · (intro w hSw; (try dsimp only at hSw); go_simp; (try with_reducible rfl))
          try simp only [Act.put, List.setIfInBounds_toArray, List.set_cons_zero, List.set_cons_succ]
          refine wpAnyX_take (i := 3) (oi := _) (v := ?_) rfl (by kernel_rfl) (by kernel_rfl) (by kernel_rfl) (by kernel_rfl) (fun _ _ _ h => h) (Or.inl ⟨by rfl, ?_⟩) hS0 ?_
          rotate_left 1
          · (intro w hSw; (try dsimp only at hSw); go_simp; (try with_reducible rfl))
          try simp only [Act.put, List.setIfInBounds_toArray, List.set_cons_zero, List.set_cons_succ]
          refine wpAnyX_take (i := 4) (oi := _) (v := ?_) rfl (by kernel_rfl) (by kernel_rfl) (by kernel_rfl) (by kernel_rfl) (fun _ _ _ h => h) (Or.inl ⟨by rfl, ?_⟩) hS0 ?_
          rotate_left 1
          · (intro w hSw; (try dsimp only at hSw); go_simp; (try with_reducible rfl))
          try simp only [Act.put, List.setIfInBounds_toArray, List.set_cons_zero, List.set_cons_succ]
          refine wpAnyX_take (i := 5) (oi := _) (v := ?_) rfl (by kernel_rfl) (by kernel_rfl) (by kernel_rfl) (by kernel_rfl) (fun _ _ _ h => h) (Or.inl ⟨by rfl, ?_⟩) hS0 ?_
          rotate_left 1
          · (intro w hSw; (try dsimp only at hSw); go_simp; (try with_reducible rfl))
          change wpAnyX _ _ _ _ _ _ _ _ (Act.put _ (some 32) _) _
          try simp only [Act.put, List.setIfInBounds_toArray, List.set_cons_zero, List.set_cons_succ]
          refine wpAnyX_one (i := 6) (o := _) rfl (by kernel_rfl) (fun K hK => ?_)
          go_simp
          refine (acm (pa := 0) (pb := (pX : Int)) (p32 q5 H1.out) (p32 q5 H2.out) (p32 q5 aX2) (p32 q5 bX2) (t := false) HCX.out _).mono ?_
          rintro ee w7 ⟨rfl, hb9⟩
          have kw7 : Below W6.heap.size W6 w7 := ⟨hb9.os, hb9.tape, hb9.output, hb9.size, hb9.block⟩
          refine hK.out _ _ (fun _ => ?_) (fun hS1 => ?_)
          · exact ⟨kcl hb9 (hS0.1), kcl hb9 (hS0.2.1), kcl hb9 (hS0.2.2.1), kcl hb9 (hS0.2.2.2.1), kcl hb9 (hS0.2.2.2.2.1), kcl hb9 (hS0.2.2.2.2.2.1), kcl hb9 (hS0.2.2.2.2.2.2.1), kcl hb9 (hS0.2.2.2.2.2.2.2.1), kcl hb9 (hS0.2.2.2.2.2.2.2.2)⟩
          clear hK K
          have hS1 := hS1 (by decide)
          try simp only [Act.put, List.setIfInBounds_toArray, List.set_cons_zero, List.set_cons_succ]
          refine wpAnyX_done (by kernel_rfl) ?_ _
          clear hb9 hS0 hS1 eX0 eX1 eX2
          have hB7 : Below w.heap.size w w7 := chn hB6 kw7 hB6.size
          clear ct0 ct1 ct2 cp0 cp1 cp2 cz0 cz1 cz2 cf0 cf1 cf2 lt lp lz lf 
          have Mt : Hid (Bb w7 (w.heap.size) 53 #[.int .i64 (n : Int), .slice (some ⟨gX, oX, none⟩) n c1, .slice (some ⟨gZ, oZ, none⟩) n c2]) := Tt.out.mono kw7
          have Mp : Hid (Bb w7 (w.heap.size + 1) 43 #[.int .i64 0, .int .i64 (PX : Int), .int .i64 (PZ : Int)]) := Tp.out.mono kw7
          have Mz : Hid (Bb w7 (w.heap.size + 1 + 1) 43 #[.int .i64 0, .int .i64 0, .int .i64 0]) := Tz.out.mono kw7
          have Mf : Hid (Bb w7 (w.heap.size + 1 + 1 + 1) 43 #[.int .i64 0, .int .i64 ((u1 : Nat) : Int), .int .i64 ((fnd xs (0, PX, PZ) j : Nat) : Int)]) := Tf.out.mono kw7
          go_wp2_with (fail)
          go_roundg m
          case measure => omega
          case rel =>
            refine ⟨j + 1, by omega, by go_num, ?_, ?_, ?_, ?_, ?_⟩
            · show Bb _ _ _ _; exact Mt.out
            · show Bb _ _ _ _; exact Mp.out
            · show Bb _ _ _ _; exact Mz.out
            · have E1 : fnd zs (0, PX, PZ) (j + 1) = u1 := U1.out.symm
              have E2 : fnd xs (0, PX, PZ) (j + 1) = fnd xs (0, PX, PZ) j := fnd_f nX HCX.out
              show Bb _ _ _ _; rw [E1, E2]; exact Mf.out
            · (repeat' (first | (with_reducible exact Below.refl _ _) | (with_reducible assumption) | (with_reducible refine Below.alloc ?_ ?_ _) | (with_reducible refine Below.drew ?_) | (with_reducible refine bdN ?_ _) | (with_reducible refine Below.setCell ?_ ?_ _) | (with_reducible refine chn ?_ (by assumption) ?_) | omega | (simp; done) | (simp; omega)))
        · skip
          have HCZ : Hid (acB PX PZ aZ bZ = true) := hcz
          have HCX : Hid (acB PX PZ aX bX = true) := hcx
          clear hcz hcx
          have eZ0 : wr.cell? ⟨gZ, oZ + j * 3, none⟩ = some (.int .i64 (pZ : Int)) := (World.cell?_of_block (hB.block gZ hgZ)).trans HEZ.out.1
          have eZ1 : wr.cell? ⟨gZ, oZ + j * 3 + 1, none⟩ = some (.int .i64 (aZ : Int)) := (World.cell?_of_block (hB.block gZ hgZ)).trans HEZ.out.2.1
          have eZ2 : wr.cell? ⟨gZ, oZ + j * 3 + 2, none⟩ = some (.int .i64 (bZ : Int)) := (World.cell?_of_block (hB.block gZ hgZ)).trans HEZ.out.2.2
          go_upto_region 5 with (fail)
          have yct0 : wr.drew.cell? ⟨w.heap.size, 0, none⟩ = some (.int .i64 (n : Int)) := ct0
          have yct1 : wr.drew.cell? ⟨w.heap.size, 1, none⟩ = some (.slice (some ⟨gX, oX, none⟩) n c1) := ct1
          have yct2 : wr.drew.cell? ⟨w.heap.size, 2, none⟩ = some (.slice (some ⟨gZ, oZ, none⟩) n c2) := ct2
          have ycp0 : wr.drew.cell? ⟨w.heap.size + 1, 0, none⟩ = some (.int .i64 0) := cp0
          have ycp1 : wr.drew.cell? ⟨w.heap.size + 1, 1, none⟩ = some (.int .i64 (PX : Int)) := cp1
          have ycp2 : wr.drew.cell? ⟨w.heap.size + 1, 2, none⟩ = some (.int .i64 (PZ : Int)) := cp2
          have yeZ0 : wr.drew.cell? ⟨gZ, oZ + j * 3, none⟩ = some (.int .i64 (pZ : Int)) := eZ0
          have yeZ1 : wr.drew.cell? ⟨gZ, oZ + j * 3 + 1, none⟩ = some (.int .i64 (aZ : Int)) := eZ1
          have yeZ2 : wr.drew.cell? ⟨gZ, oZ + j * 3 + 2, none⟩ = some (.int .i64 (bZ : Int)) := eZ2
          refine wp_region_x (fun w' => w'.cell? ⟨w.heap.size, 0, none⟩ = some (.int .i64 (n : Int)) ∧ w'.cell? ⟨w.heap.size, 1, none⟩ = some (.slice (some ⟨gX, oX, none⟩) n c1) ∧ w'.cell? ⟨w.heap.size, 2, none⟩ = some (.slice (some ⟨gZ, oZ, none⟩) n c2) ∧ w'.cell? ⟨w.heap.size + 1, 0, none⟩ = some (.int .i64 0) ∧ w'.cell? ⟨w.heap.size + 1, 1, none⟩ = some (.int .i64 (PX : Int)) ∧ w'.cell? ⟨w.heap.size + 1, 2, none⟩ = some (.int .i64 (PZ : Int)) ∧ w'.cell? ⟨gZ, oZ + j * 3, none⟩ = some (.int .i64 (pZ : Int)) ∧ w'.cell? ⟨gZ, oZ + j * 3 + 1, none⟩ = some (.int .i64 (aZ : Int)) ∧ w'.cell? ⟨gZ, oZ + j * 3 + 2, none⟩ = some (.int .i64 (bZ : Int))) 1000 (by kernel_rfl) ⟨yct0, yct1, yct2, ycp0, ycp1, ycp2, yeZ0, yeZ1, yeZ2⟩ (fun hS0 => ?_)
          refine wpAnyX_take (i := 0) (oi := _) (v := ?_) rfl (by kernel_rfl) (by kernel_rfl) (by kernel_rfl) (by kernel_rfl) (fun _ _ _ h => h) (Or.inl ⟨by rfl, ?_⟩) hS0 ?_
          rotate_left 1
          · (intro w hSw; (try dsimp only at hSw); go_simp; (try with_reducible rfl))
          try simp only [Act.put, List.setIfInBounds_toArray, List.set_cons_zero, List.set_cons_succ]
          refine wpAnyX_take (i := 1) (oi := _) (v := ?_) rfl (by kernel_rfl) (by kernel_rfl) (by kernel_rfl) (by kernel_rfl) (fun _ _ _ h => h) (Or.inl ⟨by rfl, ?_⟩) hS0 ?_
          rotate_left 1
          · (intro w hSw; (try dsimp only at hSw); go_simp; (try with_reducible rfl))
          try simp only [Act.put, List.setIfInBounds_toArray, List.set_cons_zero, List.set_cons_succ]
          refine wpAnyX_take (i := 2) (oi := _) (v := ?_) rfl (by kernel_rfl) (by kernel_rfl) (by kernel_rfl) (by kernel_rfl) (fun _ _ _ h => h) (Or.inl ⟨by rfl, ?_⟩) hS0 ?_
          rotate_left 1
          · (intro w hSw; (try dsimp only at hSw); go_simp; (try with_reducible rfl))
          try simp only [Act.put, List.setIfInBounds_toArray, List.set_cons_zero, List.set_cons_succ]
          refine wpAnyX_take (i := 3) (oi := _) (v := ?_) rfl (by kernel_rfl) (by kernel_rfl) (by kernel_rfl) (by kernel_rfl) (fun _ _ _ h => h) (Or.inl ⟨by rfl, ?_⟩) hS0 ?_
          rotate_left 1
          · (intro w hSw; (try dsimp only at hSw); go_simp; (try with_reducible rfl))
          try simp only [Act.put, List.setIfInBounds_toArray, List.set_cons_zero, List.set_cons_succ]
          refine wpAnyX_take (i := 4) (oi := _) (v := ?_) rfl (by kernel_rfl) (by kernel_rfl) (by kernel_rfl) (by kernel_rfl) (fun _ _ _ h => h) (Or.inl ⟨by rfl, ?_⟩) hS0 ?_
          rotate_left 1
          · (intro w hSw; (try dsimp only at hSw); go_simp; (try with_reducible rfl))
          try simp only [Act.put, List.setIfInBounds_toArray, List.set_cons_zero, List.set_cons_succ]
          refine wpAnyX_take (i := 5) (oi := _) (v := ?_) rfl (by kernel_rfl) (by kernel_rfl) (by kernel_rfl) (by kernel_rfl) (fun _ _ _ h => h) (Or.inl ⟨by rfl, ?_⟩) hS0 ?_
          rotate_left 1
          · (intro w hSw; (try dsimp only at hSw); go_simp; (try with_reducible rfl))
          change wpAnyX _ _ _ _ _ _ _ _ (Act.put _ (some 19) _) _
          try simp only [Act.put, List.setIfInBounds_toArray, List.set_cons_zero, List.set_cons_succ]
          refine wpAnyX_one (i := 6) (o := _) rfl (by kernel_rfl) (fun K hK => ?_)
          go_simp
          refine (acm (pa := 0) (pb := (pZ : Int)) (p32 q5 H1.out) (p32 q5 H2.out) (p32 q5 aZ2) (p32 q5 bZ2) (t := true) HCZ.out _).mono ?_
          rintro ee w5 ⟨rfl, hb9⟩
          have kw5 : Below wr.heap.size wr w5 := ⟨hb9.os, hb9.tape, hb9.output, hb9.size, hb9.block⟩
          refine hK.out _ _ (fun _ => ?_) (fun hS1 => ?_)
          · exact ⟨kcl hb9 (hS0.1), kcl hb9 (hS0.2.1), kcl hb9 (hS0.2.2.1), kcl hb9 (hS0.2.2.2.1), kcl hb9 (hS0.2.2.2.2.1), kcl hb9 (hS0.2.2.2.2.2.1), kcl hb9 (hS0.2.2.2.2.2.2.1), kcl hb9 (hS0.2.2.2.2.2.2.2.1), kcl hb9 (hS0.2.2.2.2.2.2.2.2)⟩
          clear hK K
          have hS1 := hS1 (by decide)
          try simp only [Act.put, List.setIfInBounds_toArray, List.set_cons_zero, List.set_cons_succ]
          refine wpAnyX_done (by kernel_rfl) ?_ _
          clear hb9 hS0 hS1 eZ0 eZ1 eZ2
          have hB5 : Below w.heap.size w w5 := chn hB kw5 hBs
          clear ct0 ct1 ct2 cp0 cp1 cp2 cz0 cz1 cz2 cf0 cf1 cf2 lt lp lz lf 
          have St : Hid (Bb w5 (w.heap.size) 53 #[.int .i64 (n : Int), .slice (some ⟨gX, oX, none⟩) n c1, .slice (some ⟨gZ, oZ, none⟩) n c2]) := Rt.out.mono kw5
          have Sp : Hid (Bb w5 (w.heap.size + 1) 43 #[.int .i64 0, .int .i64 (PX : Int), .int .i64 (PZ : Int)]) := Rp.out.mono kw5
          have Sz : Hid (Bb w5 (w.heap.size + 1 + 1) 43 #[.int .i64 0, .int .i64 0, .int .i64 0]) := Rz.out.mono kw5
          have Sf : Hid (Bb w5 (w.heap.size + 1 + 1 + 1) 43 #[.int .i64 0, .int .i64 ((fnd zs (0, PX, PZ) j : Nat) : Int), .int .i64 ((fnd xs (0, PX, PZ) j : Nat) : Int)]) := Rf.out.mono kw5
          have hn1 : fnd zs (0, PX, PZ) (j + 1) = fnd zs (0, PX, PZ) j ||| 2 ^ j := fnd_t nZ HCZ.out
          obtain ⟨u1, hu1⟩ : ∃ u, u = fnd zs (0, PX, PZ) (j + 1) := ⟨_, rfl⟩
          have o1 : bits .or .i64 ((fnd zs (0, PX, PZ) j : Nat) : Int) ((pw j : Nat) : Int) = (u1 : Int) := by rw [hu1, hn1]; exact bo2 hz32 hj5
          have U1 := lay hu1
          clear hn1 hu1
          have ct0 := St.out.c 0 rfl
          have ct1 := St.out.c 1 rfl
          have ct2 := St.out.c 2 rfl
          have cp0 := Sp.out.c 0 rfl
          have cp1 := Sp.out.c 1 rfl
          have cp2 := Sp.out.c 2 rfl
          have cz0 := Sz.out.c 0 rfl
          have cz1 := Sz.out.c 1 rfl
          have cz2 := Sz.out.c 2 rfl
          have lt := St.out.lt
          have lp := Sp.out.lt
          have lz := Sz.out.lt
          have cf0 := Sf.out.c 0 rfl
          have cf1 := Sf.out.c 1 rfl
          have cf2 := Sf.out.c 2 rfl
          have lf := Sf.out.lt
          have ff := Sf.out.f
          go_upto_region 6 with (fail)
          go_region
          go_upto_region 7 with (fail)
          obtain ⟨W6, hW⟩ : ∃ W : World, W = w5.setCell ⟨w.heap.size + 1 + 1 + 1, 1, none⟩ (.int .i64 (u1 : Int)) := ⟨_, rfl⟩
          have Tt : Hid (Bb W6 (w.heap.size) 53 #[.int .i64 (n : Int), .slice (some ⟨gX, oX, none⟩) n c1, .slice (some ⟨gZ, oZ, none⟩) n c2]) := by show Bb _ _ _ _; rw [hW]; exact St.out.far (by omega)
          have Tp : Hid (Bb W6 (w.heap.size + 1) 43 #[.int .i64 0, .int .i64 (PX : Int), .int .i64 (PZ : Int)]) := by show Bb _ _ _ _; rw [hW]; exact Sp.out.far (by omega)
          have Tz : Hid (Bb W6 (w.heap.size + 1 + 1) 43 #[.int .i64 0, .int .i64 0, .int .i64 0]) := by show Bb _ _ _ _; rw [hW]; exact Sz.out.far (by omega)
          have Tf : Hid (Bb W6 (w.heap.size + 1 + 1 + 1) 43 #[.int .i64 0, .int .i64 ((u1 : Nat) : Int), .int .i64 ((fnd xs (0, PX, PZ) j : Nat) : Int)]) := by show Bb _ _ _ _; rw [hW]; exact Sf.out.set rfl
          have hB6 : Below w.heap.size w W6 := by rw [hW]; exact Below.setCell hB5 (by show w.heap.size ≤ w.heap.size + 1 + 1 + 1; omega) _
          rw [← hW]
          clear hW
          clear ct0 ct1 ct2 cp0 cp1 cp2 cz0 cz1 cz2 cf0 cf1 cf2 lt lp lz lf ff
          have ct0 := Tt.out.c 0 rfl
          have ct1 := Tt.out.c 1 rfl
          have ct2 := Tt.out.c 2 rfl
          have cp0 := Tp.out.c 0 rfl
          have cp1 := Tp.out.c 1 rfl
          have cp2 := Tp.out.c 2 rfl
          have cz0 := Tz.out.c 0 rfl
          have cz1 := Tz.out.c 1 rfl
          have cz2 := Tz.out.c 2 rfl
          have lt := Tt.out.lt
          have lp := Tp.out.lt
          have lz := Tz.out.lt
          have cf0 := Tf.out.c 0 rfl
          have cf1 := Tf.out.c 1 rfl
          have cf2 := Tf.out.c 2 rfl
          have lf := Tf.out.lt
          have eX0 : W6.cell? ⟨gX, oX + j * 3, none⟩ = some (.int .i64 (pX : Int)) := (World.cell?_of_block (hB6.block gX hgX)).trans HEX.out.1
          have eX1 : W6.cell? ⟨gX, oX + j * 3 + 1, none⟩ = some (.int .i64 (aX : Int)) := (World.cell?_of_block (hB6.block gX hgX)).trans HEX.out.2.1
          have eX2 : W6.cell? ⟨gX, oX + j * 3 + 2, none⟩ = some (.int .i64 (bX : Int)) := (World.cell?_of_block (hB6.block gX hgX)).trans HEX.out.2.2
          go_upto_region 7 with (fail)
          have yct0 : W6.drew.cell? ⟨w.heap.size, 0, none⟩ = some (.int .i64 (n : Int)) := ct0
          have yct1 : W6.drew.cell? ⟨w.heap.size, 1, none⟩ = some (.slice (some ⟨gX, oX, none⟩) n c1) := ct1
          have yct2 : W6.drew.cell? ⟨w.heap.size, 2, none⟩ = some (.slice (some ⟨gZ, oZ, none⟩) n c2) := ct2
          have ycp0 : W6.drew.cell? ⟨w.heap.size + 1, 0, none⟩ = some (.int .i64 0) := cp0
          have ycp1 : W6.drew.cell? ⟨w.heap.size + 1, 1, none⟩ = some (.int .i64 (PX : Int)) := cp1
          have ycp2 : W6.drew.cell? ⟨w.heap.size + 1, 2, none⟩ = some (.int .i64 (PZ : Int)) := cp2
          have yeX0 : W6.drew.cell? ⟨gX, oX + j * 3, none⟩ = some (.int .i64 (pX : Int)) := eX0
          have yeX1 : W6.drew.cell? ⟨gX, oX + j * 3 + 1, none⟩ = some (.int .i64 (aX : Int)) := eX1
          have yeX2 : W6.drew.cell? ⟨gX, oX + j * 3 + 2, none⟩ = some (.int .i64 (bX : Int)) := eX2
          refine wp_region_x (fun w' => w'.cell? ⟨w.heap.size, 0, none⟩ = some (.int .i64 (n : Int)) ∧ w'.cell? ⟨w.heap.size, 1, none⟩ = some (.slice (some ⟨gX, oX, none⟩) n c1) ∧ w'.cell? ⟨w.heap.size, 2, none⟩ = some (.slice (some ⟨gZ, oZ, none⟩) n c2) ∧ w'.cell? ⟨w.heap.size + 1, 0, none⟩ = some (.int .i64 0) ∧ w'.cell? ⟨w.heap.size + 1, 1, none⟩ = some (.int .i64 (PX : Int)) ∧ w'.cell? ⟨w.heap.size + 1, 2, none⟩ = some (.int .i64 (PZ : Int)) ∧ w'.cell? ⟨gX, oX + j * 3, none⟩ = some (.int .i64 (pX : Int)) ∧ w'.cell? ⟨gX, oX + j * 3 + 1, none⟩ = some (.int .i64 (aX : Int)) ∧ w'.cell? ⟨gX, oX + j * 3 + 2, none⟩ = some (.int .i64 (bX : Int))) 1000 (by kernel_rfl) ⟨yct0, yct1, yct2, ycp0, ycp1, ycp2, yeX0, yeX1, yeX2⟩ (fun hS0 => ?_)
          refine wpAnyX_take (i := 0) (oi := _) (v := ?_) rfl (by kernel_rfl) (by kernel_rfl) (by kernel_rfl) (by kernel_rfl) (fun _ _ _ h => h) (Or.inl ⟨by rfl, ?_⟩) hS0 ?_
          rotate_left 1
          · (intro w hSw; (try dsimp only at hSw); go_simp; (try with_reducible rfl))
          try simp only [Act.put, List.setIfInBounds_toArray, List.set_cons_zero, List.set_cons_succ]
          refine wpAnyX_take (i := 1) (oi := _) (v := ?_) rfl (by kernel_rfl) (by kernel_rfl) (by kernel_rfl) (by kernel_rfl) (fun _ _ _ h => h) (Or.inl ⟨by rfl, ?_⟩) hS0 ?_
          rotate_left 1
          · (intro w hSw; (try dsimp only at hSw); go_simp; (try with_reducible rfl))
          try simp only [Act.put, List.setIfInBounds_toArray, List.set_cons_zero, List.set_cons_succ]
          refine wpAnyX_take (i := 2) (oi := _) (v := ?_) rfl (by kernel_rfl) (by kernel_rfl) (by kernel_rfl) (by kernel_rfl) (fun _ _ _ h => h) (Or.inl ⟨by rfl, ?_⟩) hS0 ?_
          rotate_left 1
          · (intro w hSw; (try dsimp only at hSw); go_simp; (try with_reducible rfl))
          try simp only [Act.put, List.setIfInBounds_toArray, List.set_cons_zero, List.set_cons_succ]
          refine wpAnyX_take (i := 3) (oi := _) (v := ?_) rfl (by kernel_rfl) (by kernel_rfl) (by kernel_rfl) (by kernel_rfl) (fun _ _ _ h => h) (Or.inl ⟨by rfl, ?_⟩) hS0 ?_
          rotate_left 1
          · (intro w hSw; (try dsimp only at hSw); go_simp; (try with_reducible rfl))
          try simp only [Act.put, List.setIfInBounds_toArray, List.set_cons_zero, List.set_cons_succ]
          refine wpAnyX_take (i := 4) (oi := _) (v := ?_) rfl (by kernel_rfl) (by kernel_rfl) (by kernel_rfl) (by kernel_rfl) (fun _ _ _ h => h) (Or.inl ⟨by rfl, ?_⟩) hS0 ?_
          rotate_left 1
          · (intro w hSw; (try dsimp only at hSw); go_simp; (try with_reducible rfl))
          try simp only [Act.put, List.setIfInBounds_toArray, List.set_cons_zero, List.set_cons_succ]
          refine wpAnyX_take (i := 5) (oi := _) (v := ?_) rfl (by kernel_rfl) (by kernel_rfl) (by kernel_rfl) (by kernel_rfl) (fun _ _ _ h => h) (Or.inl ⟨by rfl, ?_⟩) hS0 ?_
          rotate_left 1
          · (intro w hSw; (try dsimp only at hSw); go_simp; (try with_reducible rfl))
          change wpAnyX _ _ _ _ _ _ _ _ (Act.put _ (some 32) _) _
          try simp only [Act.put, List.setIfInBounds_toArray, List.set_cons_zero, List.set_cons_succ]
          refine wpAnyX_one (i := 6) (o := _) rfl (by kernel_rfl) (fun K hK => ?_)
          go_simp
          refine (acm (pa := 0) (pb := (pX : Int)) (p32 q5 H1.out) (p32 q5 H2.out) (p32 q5 aX2) (p32 q5 bX2) (t := true) HCX.out _).mono ?_
          rintro ee w7 ⟨rfl, hb9⟩
          have kw7 : Below W6.heap.size W6 w7 := ⟨hb9.os, hb9.tape, hb9.output, hb9.size, hb9.block⟩
          refine hK.out _ _ (fun _ => ?_) (fun hS1 => ?_)
          · exact ⟨kcl hb9 (hS0.1), kcl hb9 (hS0.2.1), kcl hb9 (hS0.2.2.1), kcl hb9 (hS0.2.2.2.1), kcl hb9 (hS0.2.2.2.2.1), kcl hb9 (hS0.2.2.2.2.2.1), kcl hb9 (hS0.2.2.2.2.2.2.1), kcl hb9 (hS0.2.2.2.2.2.2.2.1), kcl hb9 (hS0.2.2.2.2.2.2.2.2)⟩
          clear hK K
          have hS1 := hS1 (by decide)
          try simp only [Act.put, List.setIfInBounds_toArray, List.set_cons_zero, List.set_cons_succ]
          refine wpAnyX_done (by kernel_rfl) ?_ _
          clear hb9 hS0 hS1 eX0 eX1 eX2
          have hB7 : Below w.heap.size w w7 := chn hB6 kw7 hB6.size
          clear ct0 ct1 ct2 cp0 cp1 cp2 cz0 cz1 cz2 cf0 cf1 cf2 lt lp lz lf 
          have Mt : Hid (Bb w7 (w.heap.size) 53 #[.int .i64 (n : Int), .slice (some ⟨gX, oX, none⟩) n c1, .slice (some ⟨gZ, oZ, none⟩) n c2]) := Tt.out.mono kw7
          have Mp : Hid (Bb w7 (w.heap.size + 1) 43 #[.int .i64 0, .int .i64 (PX : Int), .int .i64 (PZ : Int)]) := Tp.out.mono kw7
          have Mz : Hid (Bb w7 (w.heap.size + 1 + 1) 43 #[.int .i64 0, .int .i64 0, .int .i64 0]) := Tz.out.mono kw7
          have Mf : Hid (Bb w7 (w.heap.size + 1 + 1 + 1) 43 #[.int .i64 0, .int .i64 ((u1 : Nat) : Int), .int .i64 ((fnd xs (0, PX, PZ) j : Nat) : Int)]) := Tf.out.mono kw7
          have hn2 : fnd xs (0, PX, PZ) (j + 1) = fnd xs (0, PX, PZ) j ||| 2 ^ j := fnd_t nX HCX.out
          obtain ⟨u2, hu2⟩ : ∃ u, u = fnd xs (0, PX, PZ) (j + 1) := ⟨_, rfl⟩
          have o2 : bits .or .i64 ((fnd xs (0, PX, PZ) j : Nat) : Int) ((pw j : Nat) : Int) = (u2 : Int) := by rw [hu2, hn2]; exact bo2 hx32 hj5
          have U2 := lay hu2
          clear hn2 hu2
          have ct0 := Mt.out.c 0 rfl
          have ct1 := Mt.out.c 1 rfl
          have ct2 := Mt.out.c 2 rfl
          have cp0 := Mp.out.c 0 rfl
          have cp1 := Mp.out.c 1 rfl
          have cp2 := Mp.out.c 2 rfl
          have cz0 := Mz.out.c 0 rfl
          have cz1 := Mz.out.c 1 rfl
          have cz2 := Mz.out.c 2 rfl
          have lt := Mt.out.lt
          have lp := Mp.out.lt
          have lz := Mz.out.lt
          have cf0 := Mf.out.c 0 rfl
          have cf1 := Mf.out.c 1 rfl
          have cf2 := Mf.out.c 2 rfl
          have lf := Mf.out.lt
          have ff := Mf.out.f
          go_upto_region 8 with (fail)
          go_region
          go_wp2_with (fail)
          go_roundg m
          case measure => omega
          case rel =>
            refine ⟨j + 1, by omega, by go_num, ?_, ?_, ?_, ?_, ?_⟩
            · show Bb _ _ _ _; exact Mt.out.far (by omega)
            · show Bb _ _ _ _; exact Mp.out.far (by omega)
            · show Bb _ _ _ _; exact Mz.out.far (by omega)
            · have E1 : fnd zs (0, PX, PZ) (j + 1) = u1 := U1.out.symm
              have E2 : fnd xs (0, PX, PZ) (j + 1) = u2 := U2.out.symm
              show Bb _ _ _ _; rw [E1, E2]; exact Mf.out.set rfl
            · (repeat' (first | (with_reducible exact Below.refl _ _) | (with_reducible assumption) | (with_reducible refine Below.alloc ?_ ?_ _) | (with_reducible refine Below.drew ?_) | (with_reducible refine bdN ?_ _) | (with_reducible refine Below.setCell ?_ ?_ _) | (with_reducible refine chn ?_ (by assumption) ?_) | omega | (simp; done) | (simp; omega)))

end Go.Proofs.Ytjedpeoafpljhaa.C4
