/- l7Before: the model. -/
import Derived.Test.YtjedpeoafpljhaaZi1
import Derived.Test.YtjedpeoafpljhaaPims
import Derived.Test.YtjedpeoafpljhaaRgx
import Derived.Deep.DeepCutAuto
import Derived.Deep.CutBlock
namespace Go.Proofs.Ytjedpeoafpljhaa.C4
open Go.RowKit
set_option linter.unusedVariables false
set_option linter.unusedSimpArgs false
attribute [local irreducible] World.setCell

set_option maxRecDepth 100000 in
set_option maxHeartbeats 16000000 in
theorem l7bef {n PX PZ c1 c2 ph X Z D : Nat} {A1 A2 : Option Addr} {xs zs : List PauliV} {w : World} (q1 : 1 ≤ n) (q5 : n ≤ 5) (hD : D = pw n) (hS : Sym n xs zs) (h1 : PX < 2 ^ n) (h2 : PZ < 2 ^ n) (hA : Rd pauliE w A1 xs) (hB : Rd pauliE w A2 zs) (hx : okL n xs) (hz : okL n zs) (hX : X = fnd zs (0, PX, PZ) n) (hZ : Z = fnd xs (0, PX, PZ) n) (hr : imgS X Z xs zs 0 n = (ph, PX, PZ)) :
    Calls Try.prog 146 #[tableauV (n : Int) A1 n c1 A2 n c2, .agg #[.int .i64 0, .int .i64 (PX : Int), .int .i64 (PZ : Int)]] w fun ee w' => ee = .returned (pA ph X Z) ∧ Below w.heap.size w w' := by
  have hXl : X < D := by rw [hX, hD]; exact fnd_lt zs _ n
  have hZl : Z < D := by rw [hZ, hD]; exact fnd_lt xs _ n
  have hD32 : D ≤ 32 := by rw [hD]; exact Nat.pow_le_pow_right (n := 2) (by decide) q5
  have hpar : ph % 2 = 0 := by have h9 := img_par hS (px := X) (pz := Z) (k := n) (Nat.le_refl n); rw [hr] at h9; exact h9
  have hph4 : ph < 4 := by have h9 := imgS_ok (px := X) (pz := Z) (p0 := 0) (k := n) hx hz (by decide) (Nat.le_refl n); rw [hr] at h9; exact h9.1
  have e1 := pw_w (show n ≤ 5 by omega)
  have e2 := pw_k (show n ≤ 5 by omega)
  rw [← hD] at e1 e2
  have i1 : IntKind.u64.wrap ((n : Int)) = (n : Int) := IntWalk.u64_in _ (by omega)
  have HS := lay hS
  have H1 := lay h1
  have H2 := lay h2
  have HA := lay hA
  have HB := lay hB
  have OX := lay hx
  have OZ := lay hz
  have HX := lay hX
  have HZ := lay hZ
  have HR := lay hr
  have HD := lay hD
  clear hS h1 h2 hA hB hx hz hX hZ hr hD
  go_enter Try.func146, Try.ntmps146
  go_wp2_with (fail)
  go_loopg [5] D (fun k s5 wr => ∃ i : Nat, i + k = D ∧ s5 = .int .i64 (i : Int) ∧ i ≤ X ∧ Hid (Bb wr (w.heap.size) 53 #[.int .i64 (n : Int), .slice A1 n c1, .slice A2 n c2]) ∧ Hid (Bb wr (w.heap.size + 1) 43 #[.int .i64 0, .int .i64 (PX : Int), .int .i64 (PZ : Int)]) ∧ Hid (Bb wr (w.heap.size + 1 + 1) 43 #[.int .i64 0, .int .i64 0, .int .i64 0]) ∧ Below w.heap.size w wr)
  case atStart =>
    refine ⟨0, by omega, rfl, by omega, ?_, ?_, ?_, ?_⟩
    · show Bb _ _ _ _; (repeat' (first | (with_reducible assumption) | (refine Bb.new (by first | (with_reducible rfl) | (simp; done))) | (with_reducible refine Bb.alloc ?_ _) | (with_reducible refine Bb.drew ?_) | (with_reducible refine Bb.drewN ?_ _) | (with_reducible refine Bb.mono ?_ (by assumption)) | (with_reducible refine Bb.far ?_ (by (try simp only [World.size_alloc, World.size_drew]); omega)) | (with_reducible refine Bb.set ?_ rfl) | (with_reducible refine Bb.grown ?_ (by assumption) (by assumption))))
    · show Bb _ _ _ _; exact Bb.alloc (Bb.new (by simp)) _
    · show Bb _ _ _ _; exact Bb.new (by simp)
    · (repeat' (first | (with_reducible exact Below.refl _ _) | (with_reducible assumption) | (with_reducible refine Below.alloc ?_ ?_ _) | (with_reducible refine Below.drew ?_) | (with_reducible refine bdN ?_ _) | (with_reducible refine Below.setCell ?_ ?_ _) | (with_reducible refine chn ?_ (by assumption) ?_) | omega | (simp; done) | (simp; omega)))
  case round =>
    obtain ⟨i, hi, rfl, hiX, Rt, Rp, Rz, hB⟩ := hrel
    have hBs := hB.size
    have ct0 := Rt.out.c 0 rfl
    have ct1 := Rt.out.c 1 rfl
    have ct2 := Rt.out.c 2 rfl
    have cp0 := Rp.out.c 0 rfl
    have cp1 := Rp.out.c 1 rfl
    have cp2 := Rp.out.c 2 rfl
    have cz0 := Rz.out.c 0 rfl
    have cz1 := Rz.out.c 1 rfl
    have cz2 := Rz.out.c 2 rfl
    have lt := Rt.out.lt
    have lp := Rp.out.lt
    have lz := Rz.out.lt
    cases gk with
    | zero => exact absurd hiX (by omega)
    | succ m =>
      have hlt : i < D := by omega
      have il : (i : Int) < (D : Int) := by omega
      go_wp2_with (fail)
      go_loopg [6] D (fun k s6 wq => ∃ j : Nat, j + k = D ∧ s6 = .int .i64 (j : Int) ∧ (i = X → j ≤ Z) ∧ Hid (Bb wq (w.heap.size) 53 #[.int .i64 (n : Int), .slice A1 n c1, .slice A2 n c2]) ∧ Hid (Bb wq (w.heap.size + 1) 43 #[.int .i64 0, .int .i64 (PX : Int), .int .i64 (PZ : Int)]) ∧ Hid (Bb wq (w.heap.size + 1 + 1) 43 #[.int .i64 0, .int .i64 0, .int .i64 0]) ∧ Below w.heap.size w wq)
      case atStart => exact ⟨0, by omega, rfl, fun _ => by omega, Rt, Rp, Rz, hB⟩
      case round =>
        obtain ⟨j, hj, rfl, hjZ, Qt, Qp, Qz, hBq⟩ := hrel
        clear ct0 ct1 ct2 cp0 cp1 cp2 cz0 cz1 cz2 lt lp lz 
        have hBt := hBq.size
        have ct0 := Qt.out.c 0 rfl
        have ct1 := Qt.out.c 1 rfl
        have ct2 := Qt.out.c 2 rfl
        have cp0 := Qp.out.c 0 rfl
        have cp1 := Qp.out.c 1 rfl
        have cp2 := Qp.out.c 2 rfl
        have cz0 := Qz.out.c 0 rfl
        have cz1 := Qz.out.c 1 rfl
        have cz2 := Qz.out.c 2 rfl
        have lt := Qt.out.lt
        have lp := Qp.out.lt
        have lz := Qz.out.lt
        cases gk with
        | zero =>
          have hne : i ≠ X := fun e => by have := hjZ e; omega
          go_wp2_with (fail)
          go_roundg m
          case measure => omega
          case rel => exact ⟨i + 1, by omega, by go_num, by omega, Qt, Qp, Qz, hBq⟩
        | succ m2 =>
          have hjt : j < D := by omega
          have jl : (j : Int) < (D : Int) := by omega
          obtain ⟨⟨yp, yX, yZ⟩, hy⟩ : ∃ s : St, imgS i j xs zs 0 n = s := ⟨_, rfl⟩
          have hi2 : i < 2 ^ n := by have h9 := HD.out; unfold pw at h9; omega
          have hj2 : j < 2 ^ n := by have h9 := HD.out; unfold pw at h9; omega
          have hone : (yX = PX ∧ yZ = PZ) → i = X ∧ j = Z := fun h => by
            have h9 := img_one HS.out (p0 := 0) (p := (0, PX, PZ)) hi2 hj2 (by rw [hy, h.1, h.2])
            exact ⟨h9.1.trans HX.out.symm, h9.2.trans HZ.out.symm⟩
          have HY := lay hy
          have HI2 := lay hi2
          have HJ2 := lay hj2
          have HONE := lay hone
          clear hy hi2 hj2 hone
          go_wp2_with (fail)
          refine (simg (xs := xs) (zs := zs) (p0 := 0) q5 (by decide) HI2.out HJ2.out ?_ ?_ OX.out OZ.out HY.out).mono ?_
          · exact HA.out.mono hBq
          · exact HB.out.mono hBq
          rintro ee w9 ⟨he, -, hb9⟩
          obtain rfl : ee = .returned (.agg #[.int .i64 (yp : Int), .int .i64 (yX : Int), .int .i64 (yZ : Int)]) := he
          have hB9 : Below w.heap.size w w9 := chn hBq hb9 hBt
          have hz9 := hb9.size
          clear ct0 ct1 ct2 cp0 cp1 cp2 cz0 cz1 cz2 lt lp lz 
          have Mt := lay (Qt.out.mono hb9)
          have Mp := lay (Qp.out.mono hb9)
          have Mz := lay (Qz.out.mono hb9)
          clear hb9 Qt Qp Qz
          have ct0 := Mt.out.c 0 rfl
          have ct1 := Mt.out.c 1 rfl
          have ct2 := Mt.out.c 2 rfl
          have cp0 := Mp.out.c 0 rfl
          have cp1 := Mp.out.c 1 rfl
          have cp2 := Mp.out.c 2 rfl
          have cz0 := Mz.out.c 0 rfl
          have cz1 := Mz.out.c 1 rfl
          have cz2 := Mz.out.c 2 rfl
          have lt := Mt.out.lt
          have lp := Mp.out.lt
          have lz := Mz.out.lt
          have fz := Mz.out.f
          by_cases hX2 : i = X ∧ j = Z
          · obtain ⟨e3, e4⟩ := hX2
            subst e3 e4
            have h9 := HY.out
            rw [HR.out] at h9
            simp only [Prod.mk.injEq] at h9
            obtain ⟨rfl, rfl, rfl⟩ := h9
            have hp2 : ph = 0 ∨ ph = 2 := by omega
            clear hpar hph4
            rcases hp2 with rfl | rfl
            · skip
              go_upto_region 9 with (fail)
              go_cut [4] (fun s4 wx => s4 = .pointer (some ⟨w.heap.size + 1 + 1, 0, none⟩) ∧ Hid (Bb wx (w.heap.size + 1 + 1) 43 #[.int .i64 0, .int .i64 (i : Int), .int .i64 (j : Int)]) ∧ Below w.heap.size w wx)
              case first =>
                go_wp2_with (fail)
                go_meet
                refine ⟨rfl, ?_, ?_⟩
                · show Bb _ _ _ _; exact Bb.alloc (((Mz.out.set rfl).set rfl).set rfl) _
                · (repeat' (first | (with_reducible exact Below.refl _ _) | (with_reducible assumption) | (with_reducible refine Below.alloc ?_ ?_ _) | (with_reducible refine Below.drew ?_) | (with_reducible refine bdN ?_ _) | (with_reducible refine Below.setCell ?_ ?_ _) | (with_reducible refine chn ?_ (by assumption) ?_) | omega | (simp; done) | (simp; omega)))
              case rest =>
                obtain ⟨rfl, Xr, HBc⟩ := hcut
                have cr0 := Xr.out.c 0 rfl
                have cr1 := Xr.out.c 1 rfl
                have cr2 := Xr.out.c 2 rfl
                have lr := Xr.out.lt
                apply_assumption
                refine wp_ret ?_
                simp only [Exit.inBlock, Exit.then]
                refine bodyPost_ret (v := .agg #[.int .i64 0, .int .i64 (i : Int), .int .i64 (j : Int)]) (by first | (simp [results, Try.results146, go_sem, *]; done) | (simp (disch := (first | omega | (simp; done) | (simp; omega))) [results, Try.results146, go_sem, *]; done) | (simp only [results, Try.results146]; go_simp; done)) rfl ⟨rfl, ?_⟩
                exact HBc
            · skip
              go_upto_region 9 with (fail)
              go_cut [4] (fun s4 wx => s4 = .pointer (some ⟨w.heap.size + 1 + 1, 0, none⟩) ∧ Hid (Bb wx (w.heap.size + 1 + 1) 43 #[.int .i64 2, .int .i64 (i : Int), .int .i64 (j : Int)]) ∧ Below w.heap.size w wx)
              case first =>
                go_wp2_with (fail)
                go_meet
                refine ⟨rfl, ?_, ?_⟩
                · show Bb _ _ _ _; exact Bb.alloc (((Mz.out.set rfl).set rfl).set rfl) _
                · (repeat' (first | (with_reducible exact Below.refl _ _) | (with_reducible assumption) | (with_reducible refine Below.alloc ?_ ?_ _) | (with_reducible refine Below.drew ?_) | (with_reducible refine bdN ?_ _) | (with_reducible refine Below.setCell ?_ ?_ _) | (with_reducible refine chn ?_ (by assumption) ?_) | omega | (simp; done) | (simp; omega)))
              case rest =>
                obtain ⟨rfl, Xr, HBc⟩ := hcut
                have cr0 := Xr.out.c 0 rfl
                have cr1 := Xr.out.c 1 rfl
                have cr2 := Xr.out.c 2 rfl
                have lr := Xr.out.lt
                apply_assumption
                refine wp_ret ?_
                simp only [Exit.inBlock, Exit.then]
                refine bodyPost_ret (v := .agg #[.int .i64 2, .int .i64 (i : Int), .int .i64 (j : Int)]) (by first | (simp [results, Try.results146, go_sem, *]; done) | (simp (disch := (first | omega | (simp; done) | (simp; omega))) [results, Try.results146, go_sem, *]; done) | (simp only [results, Try.results146]; go_simp; done)) rfl ⟨rfl, ?_⟩
                exact HBc
          · have hjn : i = X → j + 1 ≤ Z := fun e => by have h8 := hjZ e; have h7 : j ≠ Z := fun e2 => hX2 ⟨e, e2⟩; omega
            by_cases h5 : yX = PX
            · have h6 : yZ ≠ PZ := fun e => hX2 (HONE.out ⟨h5, e⟩)
              have d1 : ((yX : Int) == (PX : Int)) = true := by rw [h5]; simp
              have d2 : ((yZ : Int) == (PZ : Int)) = false := by
                cases hb : ((yZ : Int) == (PZ : Int))
                · rfl
                · exact absurd (Int.ofNat.inj (eq_of_beq hb)) h6
              clear h5 h6 hX2
              go_wp2_with (fail)
              go_roundg m2
              case measure => omega
              case rel =>
                refine ⟨j + 1, by omega, by go_num, hjn, ?_, ?_, ?_, ?_⟩
                · show Bb _ _ _ _; exact Mt.out.alloc _
                · show Bb _ _ _ _; exact Mp.out.alloc _
                · show Bb _ _ _ _; exact Mz.out.alloc _
                · (repeat' (first | (with_reducible exact Below.refl _ _) | (with_reducible assumption) | (with_reducible refine Below.alloc ?_ ?_ _) | (with_reducible refine Below.drew ?_) | (with_reducible refine bdN ?_ _) | (with_reducible refine Below.setCell ?_ ?_ _) | (with_reducible refine chn ?_ (by assumption) ?_) | omega | (simp; done) | (simp; omega)))
            · have d1 : ((yX : Int) == (PX : Int)) = false := by
                cases hb : ((yX : Int) == (PX : Int))
                · rfl
                · exact absurd (Int.ofNat.inj (eq_of_beq hb)) h5
              clear h5 hX2
              go_wp2_with (fail)
              go_roundg m2
              case measure => omega
              case rel =>
                refine ⟨j + 1, by omega, by go_num, hjn, ?_, ?_, ?_, ?_⟩
                · show Bb _ _ _ _; exact Mt.out.alloc _
                · show Bb _ _ _ _; exact Mp.out.alloc _
                · show Bb _ _ _ _; exact Mz.out.alloc _
                · (repeat' (first | (with_reducible exact Below.refl _ _) | (with_reducible assumption) | (with_reducible refine Below.alloc ?_ ?_ _) | (with_reducible refine Below.drew ?_) | (with_reducible refine bdN ?_ _) | (with_reducible refine Below.setCell ?_ ?_ _) | (with_reducible refine chn ?_ (by assumption) ?_) | omega | (simp; done) | (simp; omega)))

end Go.Proofs.Ytjedpeoafpljhaa.C4
