/- MulIo, MulDi, MxA, MxE -/
import Derived.Test.YtgcligmpdlffoaaZp1
import Derived.Deep.RegionWith
import Derived.Test.YtgcligmpdlffoaaZp12
import Derived.Test.YtgcligmpdlffoaaZp14
import Derived.Deep.LoopGhost
import Derived.Test.YtgcligmpdlffoaaZp9
import Derived.Test.YtgcligmpdlffoaaZp10
import Derived.Test.YtgcligmpdlffoaaZp11
import Derived.Test.YtgcligmpdlffoaaZp13
namespace Go.Proofs.Ytgcligmpdlffoaa
open Go.RowKit RM
set_option linter.unusedVariables false
set_option linter.unusedSimpArgs false

set_option maxRecDepth 100000 in
set_option maxHeartbeats 2000000 in
theorem mul_i_o (a b c d p q r s : Int) (w : World) (hx : vr a b c d = true) (hy : vr p q r s = true) (hv : vr (m0 a b c d p q r s) (m1 a b c d p q r s) (m2 a b c d p q r s) (m3 a b c d p q r s) = false) :
    Calls Try.prog 171 #[rg a b c d, rg p q r s] w fun e w' => e = .returned (rt 0 0 0 0 false) ∧ Below w.heap.size w w' := by
  have HX := hid hx
  clear hx
  have HY := hid hy
  clear hy
  have HV := hid hv
  clear hv
  go_enter Try.func171, Try.ntmps171
  go_wp2_with (first | (go_at_call 174; ((with_reducible refine (iv_t _ _ _ _ _ HX.out).mono ?_); rintro e w1 ⟨rfl, hb1⟩; obtain ⟨hc1, hf1, _⟩ := bcell hb1; have hz1 := hb1.size; (try simp at hz1); (try have hx10 : w.heap.size < w1.heap.size := (by omega)); (try have hx11 : w.heap.size + 1 < w1.heap.size := (by omega)); (try have hx12 : w.heap.size + 1 + 1 < w1.heap.size := (by omega)); (try have hx13 : w.heap.size + 1 + 1 + 1 < w1.heap.size := (by omega)))) | (go_at_call 174; ((with_reducible refine (iv_t _ _ _ _ _ HY.out).mono ?_); rintro e w2 ⟨rfl, hb2⟩; obtain ⟨hc2, hf2, _⟩ := bcell hb2; have hz2 := hb2.size; (try simp at hz2); (try have hx20 : w.heap.size < w2.heap.size := (by omega)); (try have hx21 : w.heap.size + 1 < w2.heap.size := (by omega)); (try have hx22 : w.heap.size + 1 + 1 < w2.heap.size := (by omega)); (try have hx23 : w.heap.size + 1 + 1 + 1 < w2.heap.size := (by omega)))))
  go_region_with (first
   | (go_at_call 182; ((with_reducible refine (co _ _ _ _ _).mono ?_); rintro e w3 ⟨rfl, hb3⟩; ((first | (have hq3 := bcell_drew hb3) | (have hq3 := bcell hb3))); obtain ⟨hc3, hf3, hz3⟩ := hq3; (try simp at hz3); (try have hx30 : w.heap.size < w3.heap.size := (by omega)); (try have hx31 : w.heap.size + 1 < w3.heap.size := (by omega)); (try have hx32 : w.heap.size + 1 + 1 < w3.heap.size := (by omega))))
   | (go_at_call 181; ((with_reducible refine (mc _ _ _ _ _ _ _ _ _ HX.out HY.out).mono ?_); rintro e w4 ⟨rfl, hb4⟩; ((first | (have hq4 := bcell_drew hb4) | (have hq4 := bcell hb4))); obtain ⟨hc4, hf4, hz4⟩ := hq4; (try simp at hz4); (try have hx40 : w.heap.size < w4.heap.size := (by omega)); (try have hx41 : w.heap.size + 1 < w4.heap.size := (by omega)); (try have hx42 : w.heap.size + 1 + 1 < w4.heap.size := (by omega))))
   | (go_at_call 175; ((with_reducible refine (ro_f _ _ _ _ _ HV.out).mono ?_); rintro e w5 ⟨rfl, hb5⟩; ((first | (have hq5 := bcell_drew hb5) | (have hq5 := bcell hb5))); obtain ⟨hc5, hf5, hz5⟩ := hq5; (try simp at hz5); (try have hx50 : w.heap.size < w5.heap.size := (by omega)); (try have hx51 : w.heap.size + 1 < w5.heap.size := (by omega)); (try have hx52 : w.heap.size + 1 + 1 < w5.heap.size := (by omega)))))
  all_goals (go_wp2; refine bodyPost_ret (v := rt 0 0 0 0 false) (by simp [results, Try.results171, go_sem, *]) rfl ⟨rfl, ?_⟩)
  all_goals (repeat' (first | (with_reducible exact Below.refl _ _) | (with_reducible refine Below.alloc ?_ ?_ _) | (with_reducible refine Below.drew ?_) | (with_reducible refine Below.setCell ?_ ?_ _) | (with_reducible refine chain ?_ (by assumption) ?_) | omega | (simp; done) | (simp; omega)))

end Go.Proofs.Ytgcligmpdlffoaa
namespace Go.Proofs.Ytgcligmpdlffoaa
open Go.RowKit RM
set_option linter.unusedVariables false
set_option linter.unusedSimpArgs false
attribute [local irreducible] World.setCell

set_option maxRecDepth 100000 in
set_option maxHeartbeats 4000000 in
theorem mulD_i_t (a b c d : Int) (e : Nat) (p q r s : Int) (f : Nat) (L M N O : Int) (E : Nat) (w : World) (hx : vd a b c d e = true) (hy : vd p q r s f = true) (hs : e + f ≤ 60) (hv : vr (m0 a b c d p q r s) (m1 a b c d p q r s) (m2 a b c d p q r s) (m3 a b c d p q r s) = true) (hl : low (e + f) (m0 a b c d p q r s) (m1 a b c d p q r s) (m2 a b c d p q r s) (m3 a b c d p q r s) = ⟨L, M, N, O, E⟩) :
    Calls Try.prog 132 #[dy a b c d (e : Int), dy p q r s (f : Int)] w fun ee w' => ee = .returned (dt L M N O E true) ∧ Below w.heap.size w w' := by
  have HX1 := hid (vd_iff.1 hx).1
  have HY1 := hid (vd_iff.1 hy).1
  have he1 : (e : Int) ≤ 60 := by have := (vd_iff.1 hx).2.1; omega
  have hf1 : (f : Int) ≤ 60 := by have := (vd_iff.1 hy).2.1; omega
  have hw : IntKind.i64.wrap ((e : Int) + (f : Int)) = ((e + f : Nat) : Int) := by rw [wr64 (by omega) (by omega)]; omega
  have HX := hid hx
  clear hx
  have HY := hid hy
  clear hy
  have HS := hid hs
  clear hs
  have HV := hid hv
  clear hv
  have HL := hid hl
  clear hl
  go_enter Try.func132, Try.ntmps132
  go_wp2_with (first | (go_at_call 140; ((with_reducible refine (ivd_v _ HX.out).mono ?_); rintro ee w1 ⟨rfl, hb1⟩; obtain ⟨hc1, hf1, _⟩ := bcell hb1; have hz1 := hb1.size; (try simp at hz1); (try have hx10 : w.heap.size < w1.heap.size := (by omega)); (try have hx11 : w.heap.size + 1 < w1.heap.size := (by omega)); (try have hx12 : w.heap.size + 1 + 1 < w1.heap.size := (by omega)); (try have hx13 : w.heap.size + 1 + 1 + 1 < w1.heap.size := (by omega)))) | (go_at_call 140; ((with_reducible refine (ivd_v _ HY.out).mono ?_); rintro ee w2 ⟨rfl, hb2⟩; obtain ⟨hc2, hf2, _⟩ := bcell hb2; have hz2 := hb2.size; (try simp at hz2); (try have hx20 : w.heap.size < w2.heap.size := (by omega)); (try have hx21 : w.heap.size + 1 < w2.heap.size := (by omega)); (try have hx22 : w.heap.size + 1 + 1 < w2.heap.size := (by omega)); (try have hx23 : w.heap.size + 1 + 1 + 1 < w2.heap.size := (by omega)))) | (go_at_call 171; ((with_reducible refine (mul_i_t _ _ _ _ _ _ _ _ _ HX1.out HY1.out HV.out).mono ?_); rintro ee w3 ⟨rfl, hb3⟩; obtain ⟨hc3, hf3, _⟩ := bcell hb3; have hz3 := hb3.size; (try simp at hz3); (try have hx30 : w.heap.size < w3.heap.size := (by omega)); (try have hx31 : w.heap.size + 1 < w3.heap.size := (by omega)); (try have hx32 : w.heap.size + 1 + 1 < w3.heap.size := (by omega)); (try have hx33 : w.heap.size + 1 + 1 + 1 < w3.heap.size := (by omega)))) | (go_at_call 143; ((with_reducible refine (dofx _ _ _ _ _ (e + f) _ _ _ _ _ _ (Int.natCast_add e f).symm HV.out HS.out HL.out).mono ?_); rintro ee w4 ⟨rfl, hb4⟩; obtain ⟨hc4, hf4, _⟩ := bcell hb4; have hz4 := hb4.size; (try simp at hz4); (try have hx40 : w.heap.size < w4.heap.size := (by omega)); (try have hx41 : w.heap.size + 1 < w4.heap.size := (by omega)); (try have hx42 : w.heap.size + 1 + 1 < w4.heap.size := (by omega)); (try have hx43 : w.heap.size + 1 + 1 + 1 < w4.heap.size := (by omega)))) | go_in)
  refine bodyPost_ret (v := dt L M N O E true) (by first | (simp [results, Try.results132, go_sem, *]; done) | (simp (disch := (first | omega | (simp; done) | (simp; omega))) [results, Try.results132, go_sem, *]; done) | (simp only [results, Try.results132]; go_simp; done)) rfl ⟨rfl, ?_⟩
  repeat' (first | (with_reducible exact Below.refl _ _) | (with_reducible refine Below.alloc ?_ ?_ _) | (with_reducible refine Below.drew ?_) | (with_reducible refine Below.setCell ?_ ?_ _) | (with_reducible refine chain ?_ (by assumption) ?_) | omega | (simp; done) | (simp; omega))

set_option maxRecDepth 100000 in
set_option maxHeartbeats 4000000 in
theorem mulD_i_o (a b c d : Int) (e : Nat) (p q r s : Int) (f : Nat) (w : World) (hx : vd a b c d e = true) (hy : vd p q r s f = true) (hv : vr (m0 a b c d p q r s) (m1 a b c d p q r s) (m2 a b c d p q r s) (m3 a b c d p q r s) = false) :
    Calls Try.prog 132 #[dy a b c d (e : Int), dy p q r s (f : Int)] w fun ee w' => ee = .returned (dt 0 0 0 0 0 false) ∧ Below w.heap.size w w' := by
  have HX1 := hid (vd_iff.1 hx).1
  have HY1 := hid (vd_iff.1 hy).1
  have he1 : (e : Int) ≤ 60 := by have := (vd_iff.1 hx).2.1; omega
  have hf1 : (f : Int) ≤ 60 := by have := (vd_iff.1 hy).2.1; omega
  have hw : IntKind.i64.wrap ((e : Int) + (f : Int)) = ((e + f : Nat) : Int) := by rw [wr64 (by omega) (by omega)]; omega
  have HX := hid hx
  clear hx
  have HY := hid hy
  clear hy
  have HV := hid hv
  clear hv
  go_enter Try.func132, Try.ntmps132
  go_wp2_with (first | (go_at_call 140; ((with_reducible refine (ivd_v _ HX.out).mono ?_); rintro ee w1 ⟨rfl, hb1⟩; obtain ⟨hc1, hf1, _⟩ := bcell hb1; have hz1 := hb1.size; (try simp at hz1); (try have hx10 : w.heap.size < w1.heap.size := (by omega)); (try have hx11 : w.heap.size + 1 < w1.heap.size := (by omega)); (try have hx12 : w.heap.size + 1 + 1 < w1.heap.size := (by omega)); (try have hx13 : w.heap.size + 1 + 1 + 1 < w1.heap.size := (by omega)))) | (go_at_call 140; ((with_reducible refine (ivd_v _ HY.out).mono ?_); rintro ee w2 ⟨rfl, hb2⟩; obtain ⟨hc2, hf2, _⟩ := bcell hb2; have hz2 := hb2.size; (try simp at hz2); (try have hx20 : w.heap.size < w2.heap.size := (by omega)); (try have hx21 : w.heap.size + 1 < w2.heap.size := (by omega)); (try have hx22 : w.heap.size + 1 + 1 < w2.heap.size := (by omega)); (try have hx23 : w.heap.size + 1 + 1 + 1 < w2.heap.size := (by omega)))) | (go_at_call 171; ((with_reducible refine (mul_i_o _ _ _ _ _ _ _ _ _ HX1.out HY1.out HV.out).mono ?_); rintro ee w3 ⟨rfl, hb3⟩; obtain ⟨hc3, hf3, _⟩ := bcell hb3; have hz3 := hb3.size; (try simp at hz3); (try have hx30 : w.heap.size < w3.heap.size := (by omega)); (try have hx31 : w.heap.size + 1 < w3.heap.size := (by omega)); (try have hx32 : w.heap.size + 1 + 1 < w3.heap.size := (by omega)); (try have hx33 : w.heap.size + 1 + 1 + 1 < w3.heap.size := (by omega)))) | go_in)
  refine bodyPost_ret (v := dt 0 0 0 0 0 false) (by first | (simp [results, Try.results132, go_sem, *]; done) | (simp (disch := (first | omega | (simp; done) | (simp; omega))) [results, Try.results132, go_sem, *]; done) | (simp only [results, Try.results132]; go_simp; done)) rfl ⟨rfl, ?_⟩
  repeat' (first | (with_reducible exact Below.refl _ _) | (with_reducible refine Below.alloc ?_ ?_ _) | (with_reducible refine Below.drew ?_) | (with_reducible refine Below.setCell ?_ ?_ _) | (with_reducible refine chain ?_ (by assumption) ?_) | omega | (simp; done) | (simp; omega))

set_option maxRecDepth 100000 in
set_option maxHeartbeats 4000000 in
theorem mulD_i_x (a b c d : Int) (e : Nat) (p q r s : Int) (f : Nat) (w : World) (hx : vd a b c d e = true) (hy : vd p q r s f = true) (hs : ¬ (e + f ≤ 60)) (hv : vr (m0 a b c d p q r s) (m1 a b c d p q r s) (m2 a b c d p q r s) (m3 a b c d p q r s) = true) :
    Calls Try.prog 132 #[dy a b c d (e : Int), dy p q r s (f : Int)] w fun ee w' => ee = .returned (dt 0 0 0 0 0 false) ∧ Below w.heap.size w w' := by
  have HX1 := hid (vd_iff.1 hx).1
  have HY1 := hid (vd_iff.1 hy).1
  have he1 : (e : Int) ≤ 60 := by have := (vd_iff.1 hx).2.1; omega
  have hf1 : (f : Int) ≤ 60 := by have := (vd_iff.1 hy).2.1; omega
  have hw : IntKind.i64.wrap ((e : Int) + (f : Int)) = ((e + f : Nat) : Int) := by rw [wr64 (by omega) (by omega)]; omega
  have HZ := hid (show (60 : Int) < (e : Int) + (f : Int) by omega)
  have HX := hid hx
  clear hx
  have HY := hid hy
  clear hy
  have HS := hid hs
  clear hs
  have HV := hid hv
  clear hv
  go_enter Try.func132, Try.ntmps132
  go_wp2_with (first | (go_at_call 140; ((with_reducible refine (ivd_v _ HX.out).mono ?_); rintro ee w1 ⟨rfl, hb1⟩; obtain ⟨hc1, hf1, _⟩ := bcell hb1; have hz1 := hb1.size; (try simp at hz1); (try have hx10 : w.heap.size < w1.heap.size := (by omega)); (try have hx11 : w.heap.size + 1 < w1.heap.size := (by omega)); (try have hx12 : w.heap.size + 1 + 1 < w1.heap.size := (by omega)); (try have hx13 : w.heap.size + 1 + 1 + 1 < w1.heap.size := (by omega)))) | (go_at_call 140; ((with_reducible refine (ivd_v _ HY.out).mono ?_); rintro ee w2 ⟨rfl, hb2⟩; obtain ⟨hc2, hf2, _⟩ := bcell hb2; have hz2 := hb2.size; (try simp at hz2); (try have hx20 : w.heap.size < w2.heap.size := (by omega)); (try have hx21 : w.heap.size + 1 < w2.heap.size := (by omega)); (try have hx22 : w.heap.size + 1 + 1 < w2.heap.size := (by omega)); (try have hx23 : w.heap.size + 1 + 1 + 1 < w2.heap.size := (by omega)))) | (go_at_call 171; ((with_reducible refine (mul_i_t _ _ _ _ _ _ _ _ _ HX1.out HY1.out HV.out).mono ?_); rintro ee w3 ⟨rfl, hb3⟩; obtain ⟨hc3, hf3, _⟩ := bcell hb3; have hz3 := hb3.size; (try simp at hz3); (try have hx30 : w.heap.size < w3.heap.size := (by omega)); (try have hx31 : w.heap.size + 1 < w3.heap.size := (by omega)); (try have hx32 : w.heap.size + 1 + 1 < w3.heap.size := (by omega)); (try have hx33 : w.heap.size + 1 + 1 + 1 < w3.heap.size := (by omega)))) | (go_at_call 143; ((with_reducible refine (dof_m _ _ _ _ _ _ HV.out HZ.out).mono ?_); rintro ee w4 ⟨rfl, hb4⟩; obtain ⟨hc4, hf4, _⟩ := bcell hb4; have hz4 := hb4.size; (try simp at hz4); (try have hx40 : w.heap.size < w4.heap.size := (by omega)); (try have hx41 : w.heap.size + 1 < w4.heap.size := (by omega)); (try have hx42 : w.heap.size + 1 + 1 < w4.heap.size := (by omega)); (try have hx43 : w.heap.size + 1 + 1 + 1 < w4.heap.size := (by omega)))) | go_in)
  refine bodyPost_ret (v := dt 0 0 0 0 0 false) (by first | (simp [results, Try.results132, go_sem, *]; done) | (simp (disch := (first | omega | (simp; done) | (simp; omega))) [results, Try.results132, go_sem, *]; done) | (simp only [results, Try.results132]; go_simp; done)) rfl ⟨rfl, ?_⟩
  repeat' (first | (with_reducible exact Below.refl _ _) | (with_reducible refine Below.alloc ?_ ?_ _) | (with_reducible refine Below.drew ?_) | (with_reducible refine Below.setCell ?_ ?_ _) | (with_reducible refine chain ?_ (by assumption) ?_) | omega | (simp; done) | (simp; omega))

end Go.Proofs.Ytgcligmpdlffoaa
namespace Go.Proofs.Ytgcligmpdlffoaa
open Go.RowKit RM
set_option linter.unusedVariables false
set_option linter.unusedSimpArgs false
attribute [local irreducible] World.setCell

theorem raisS_t (n : Nat) : ∀ {a b c d : Int}, (raisS n a b c d true).2 = true := by
  induction n with
  | zero => intro a b c d; rfl
  | succ n ih => intro a b c d; rw [raisS]; split <;> exact ih
theorem raisS_0 (n : Nat) : ∀ {z : Bool}, raisS n 0 0 0 0 z = (⟨0, 0, 0, 0⟩, z) := by
  induction n with
  | zero => intro z; rfl
  | succ n ih => intro z; rw [raisS, if_pos (by decide)]; exact ih
theorem low_0 (n : Nat) : low n 0 0 0 0 = ⟨0, 0, 0, 0, 0⟩ := by
  induction n with
  | zero => rfl
  | succ n ih => rw [low, if_pos (by decide)]; exact ih

/-- the model's sum: the number and whether a failure is remembered -/
def addR (z : Bool) (x y : D5) : R4 × R4 × Bool :=
  let p := raisS (y.e.toNat - x.e.toNat) x.a x.b x.c x.d z
  let q := raisS (x.e.toNat - y.e.toNat) y.a y.b y.c y.d p.2
  (p.1, q.1, q.2)
def addS (z : Bool) (x y : D5) : D5 × Bool :=
  let r := addR z x y
  if vr (r.1.a + r.2.1.a) (r.1.b + r.2.1.b) (r.1.c + r.2.1.c) (r.1.d + r.2.1.d) then (ofDy (low (x.e.toNat + (y.e.toNat - x.e.toNat)) (r.1.a + r.2.1.a) (r.1.b + r.2.1.b) (r.1.c + r.2.1.c) (r.1.d + r.2.1.d)), r.2.2)
  else (ofDy (low (x.e.toNat + (y.e.toNat - x.e.toNat)) 0 0 0 0), true)
/-- the model's product -/
def mulS (z : Bool) (x y : D5) : D5 × Bool :=
  if x.e.toNat + y.e.toNat ≤ 60 then
    if vr (m0 x.a x.b x.c x.d y.a y.b y.c y.d) (m1 x.a x.b x.c x.d y.a y.b y.c y.d) (m2 x.a x.b x.c x.d y.a y.b y.c y.d) (m3 x.a x.b x.c x.d y.a y.b y.c y.d) then (ofDy (low (x.e.toNat + y.e.toNat) (m0 x.a x.b x.c x.d y.a y.b y.c y.d) (m1 x.a x.b x.c x.d y.a y.b y.c y.d) (m2 x.a x.b x.c x.d y.a y.b y.c y.d) (m3 x.a x.b x.c x.d y.a y.b y.c y.d)), z)
    else (ofDy (low (x.e.toNat + y.e.toNat) 0 0 0 0), true)
  else (z5, true)
theorem addS_ok {z : Bool} {x y : D5} (hx : x.ok = true) (hy : y.ok = true) : (addS z x y).1.ok = true := by
  obtain ⟨e, h1, h2⟩ := ok_nat hx
  obtain ⟨f, k1, k2⟩ := ok_nat hy
  have he := (vd_iff.1 h2).2.1
  have hf := (vd_iff.1 k2).2.1
  have hs : x.e.toNat + (y.e.toNat - x.e.toNat) ≤ 60 := by rw [h1, k1]; simp; omega
  unfold addS
  dsimp only
  split
  · rename_i hv; exact ok_low hv hs
  · exact ok_low (by decide) hs
theorem addS_t {x y : D5} : (addS true x y).2 = true := by
  unfold addS addR
  dsimp only
  split
  · rw [raisS_t]
    exact raisS_t _
  · rfl
theorem mulS_ok {z : Bool} {x y : D5} (hx : x.ok = true) (hy : y.ok = true) : (mulS z x y).1.ok = true := by
  unfold mulS
  split
  · rename_i hs
    split
    · rename_i hv; exact ok_low hv hs
    · exact ok_low (by decide) hs
  · exact z5_ok
theorem mulS_t {x y : D5} : (mulS true x y).2 = true := by
  unfold mulS
  split
  · split <;> rfl
  · rfl
theorem mulS_z {z : Bool} {y : D5} (hy : y.ok = true) : mulS z z5 y = (z5, z) := by
  obtain ⟨f, k1, k2⟩ := ok_nat hy
  have hf := (vd_iff.1 k2).2.1
  unfold mulS z5
  have h0 : ∀ p q r s : Int, m0 0 0 0 0 p q r s = 0 := by intros; simp [m0]
  have h1 : ∀ p q r s : Int, m1 0 0 0 0 p q r s = 0 := by intros; simp [m1]
  have h2 : ∀ p q r s : Int, m2 0 0 0 0 p q r s = 0 := by intros; simp [m2]
  have h3 : ∀ p q r s : Int, m3 0 0 0 0 p q r s = 0 := by intros; simp [m3]
  simp only [h0, h1, h2, h3, low_0]
  rw [if_pos (by rw [k1]; simp; omega), if_pos (by decide)]
  rfl
theorem addS_z {z : Bool} {x : D5} (hx : x.ok = true) : addS z x z5 = (x, z) := by
  obtain ⟨a, b, c, d, e'⟩ := x
  obtain ⟨e, k1, k2⟩ := ok_nat hx
  dsimp only at k1 k2
  subst k1
  obtain ⟨h1, h2, h3⟩ := vd_iff.1 k2
  have e1 : (z5.e.toNat - ((e : Int)).toNat) = 0 := by simp [z5]
  have e2 : ((e : Int)).toNat = e := by simp
  unfold addS addR
  dsimp only
  rw [e1, e2]
  simp only [z5, raisS, Int.toNat_zero, Nat.sub_zero, raisS_0, Int.add_zero, Nat.add_zero, h1, if_true, low_fix h3]
  rfl

theorem cadd {x y : D5} {z : Bool} {g : Nat} {w : World} (hx : x.ok = true) (hy : y.ok = true) (h0 : w.cell? ⟨g, 0, none⟩ = some (.bool z)) (f0 : w.frozen? ⟨g, 0, none⟩ = false) :
    Calls Try.prog 72 #[.pointer (some ⟨g, 0, none⟩), x.v, y.v] w fun ee w' => ee = .returned (addS z x y).1.v ∧ Below w.heap.size (w.setCell ⟨g, 0, none⟩ (.bool (addS z x y).2)) w' := by
  obtain ⟨a, b, c, d, e'⟩ := x
  obtain ⟨p, q, r, s, f'⟩ := y
  obtain ⟨e, h1, h2⟩ := ok_nat hx
  obtain ⟨f, k1, k2⟩ := ok_nat hy
  dsimp only at h1 h2 k1 k2
  subst h1 k1
  obtain ⟨vx, ex, _⟩ := vd_iff.1 h2
  obtain ⟨vy, ey, _⟩ := vd_iff.1 k2
  unfold addS addR
  simp only [Int.toNat_natCast]
  rcases hr1 : raisS (f - e) a b c d z with ⟨⟨A, B, C, D⟩, z1⟩
  rcases hr2 : raisS (e - f) p q r s z1 with ⟨⟨P, Q, R, S⟩, z2⟩
  cases hv : vr (A + P) (B + Q) (C + R) (D + S)
  · simp only [Bool.false_eq_true, if_false]
    rcases hl : low (e + (f - e)) 0 0 0 0 with ⟨L, M, N, O, E⟩
    exact ladd_f _ _ _ _ _ _ _ _ _ _ g _ _ _ _ _ _ _ _ _ _ _ _ _ _ _ _ w h0 f0 ex ey vx vy hr1 hr2 hv hl
  · simp only [if_true]
    rcases hl : low (e + (f - e)) (A + P) (B + Q) (C + R) (D + S) with ⟨L, M, N, O, E⟩
    exact ladd_t _ _ _ _ _ _ _ _ _ _ g _ _ _ _ _ _ _ _ _ _ _ _ _ _ _ _ w h0 f0 ex ey vx vy hr1 hr2 hv hl

theorem cmul {x y : D5} {z : Bool} {g : Nat} {w : World} (hx : x.ok = true) (hy : y.ok = true) (h0 : w.cell? ⟨g, 0, none⟩ = some (.bool z)) (f0 : w.frozen? ⟨g, 0, none⟩ = false) :
    Calls Try.prog 73 #[.pointer (some ⟨g, 0, none⟩), x.v, y.v] w fun ee w' => ee = .returned (mulS z x y).1.v ∧ Below w.heap.size (w.setCell ⟨g, 0, none⟩ (.bool (mulS z x y).2)) w' := by
  obtain ⟨a, b, c, d, e'⟩ := x
  obtain ⟨p, q, r, s, f'⟩ := y
  obtain ⟨e, h1, h2⟩ := ok_nat hx
  obtain ⟨f, k1, k2⟩ := ok_nat hy
  dsimp only at h1 h2 k1 k2
  subst h1 k1
  obtain ⟨vx, ex, _⟩ := vd_iff.1 h2
  obtain ⟨vy, ey, _⟩ := vd_iff.1 k2
  unfold mulS
  simp only [Int.toNat_natCast]
  by_cases hs : e + f ≤ 60
  · rw [if_pos hs]
    cases hv : vr (m0 a b c d p q r s) (m1 a b c d p q r s) (m2 a b c d p q r s) (m3 a b c d p q r s)
    · simp only [Bool.false_eq_true, if_false]
      rcases hl : low (e + f) 0 0 0 0 with ⟨L, M, N, O, E⟩
      exact lmul_o _ _ _ _ _ _ _ _ _ _ g _ _ _ _ _ _ w h0 f0 ex ey vx vy hs hv hl
    · simp only [if_true]
      rcases hl : low (e + f) (m0 a b c d p q r s) (m1 a b c d p q r s) (m2 a b c d p q r s) (m3 a b c d p q r s) with ⟨L, M, N, O, E⟩
      exact lmul_t _ _ _ _ _ _ _ _ _ _ g _ _ _ _ _ _ w h0 f0 ex ey vx vy hs hv hl
  · rw [if_neg hs]
    exact lmul_x _ _ _ _ _ _ _ _ _ _ g _ w h0 f0 ex ey hs

theorem addS_eq {a b c d : Int} {e : Nat} {p q r s : Int} {f : Nat} {A B C D P Q R S : Int} {z1 z2 : Bool} (h1 : raisS (f - e) a b c d false = (⟨A, B, C, D⟩, z1)) (h2 : raisS (e - f) p q r s z1 = (⟨P, Q, R, S⟩, z2)) :
    addS false ⟨a, b, c, d, e⟩ ⟨p, q, r, s, f⟩ = if vr (A + P) (B + Q) (C + R) (D + S) then (ofDy (low (e + (f - e)) (A + P) (B + Q) (C + R) (D + S)), z2) else (ofDy (low (e + (f - e)) 0 0 0 0), true) := by
  unfold addS addR
  simp only [Int.toNat_natCast]
  rw [h1]
  dsimp only
  rw [h2]
theorem iadd_key {a b c d : Int} {e : Nat} {p q r s : Int} {f : Nat} (hx : vd a b c d e = true) (hy : vd p q r s f = true) (w : World) :
    ((addS false ⟨a, b, c, d, e⟩ ⟨p, q, r, s, f⟩).2 = true ∧ Calls Try.prog 78 #[dy a b c d (e : Int), dy p q r s (f : Int)] w fun ee w' => ee = .returned (dt 0 0 0 0 0 false) ∧ Below w.heap.size w w') ∨
    ∃ L M N O E : Int, addS false ⟨a, b, c, d, e⟩ ⟨p, q, r, s, f⟩ = (⟨L, M, N, O, E⟩, false) ∧ Calls Try.prog 78 #[dy a b c d (e : Int), dy p q r s (f : Int)] w fun ee w' => ee = .returned (dt L M N O E true) ∧ Below w.heap.size w w' := by
  obtain ⟨vx, ex, _⟩ := vd_iff.1 hx
  obtain ⟨vy, ey, _⟩ := vd_iff.1 hy
  rcases hr : rais (f - e) a b c d with _ | ⟨A, B, C, D⟩
  · have hlt : e < f := by
      apply Nat.lt_of_not_le; intro hh
      rw [Nat.sub_eq_zero_of_le hh] at hr; cases hr
    obtain ⟨A, B, C, D, h1, _⟩ := raisS_none _ vx hr
    have h2 : raisS (e - f) p q r s true = (⟨p, q, r, s⟩, true) := by rw [Nat.sub_eq_zero_of_le (Nat.le_of_lt hlt)]; rfl
    exact Or.inl ⟨by rw [addS_eq h1 h2]; split <;> rfl, addD_i_lt_n _ _ _ _ _ _ _ _ _ _ 0 0 0 0 0 0 0 0 0 0 0 0 0 w hlt hx hy hr⟩
  · obtain ⟨h1, v1⟩ := raisS_some _ vx hr
    rcases hs : rais (e - f) p q r s with _ | ⟨P, Q, R, S⟩
    · have hlt : f < e := by
        apply Nat.lt_of_not_le; intro hh
        rw [Nat.sub_eq_zero_of_le hh] at hs; cases hs
      obtain ⟨P, Q, R, S, h2, _⟩ := raisS_none _ vy hs
      exact Or.inl ⟨by rw [addS_eq h1 h2]; split <;> rfl, addD_i_gt_n _ _ _ _ _ _ _ _ _ _ 0 0 0 0 0 0 0 0 0 0 0 0 0 w hlt hx hy hs⟩
    · obtain ⟨h2, v2⟩ := raisS_some _ vy hs
      rcases Nat.lt_trichotomy e f with hc | hc | hc
      · have hP : (⟨p, q, r, s⟩ : R4) = ⟨P, Q, R, S⟩ := by rw [Nat.sub_eq_zero_of_le (Nat.le_of_lt hc)] at hs; simpa [rais] using hs
        simp only [R4.mk.injEq] at hP
        obtain ⟨rfl, rfl, rfl, rfl⟩ := hP
        have hef : e + (f - e) = f := by omega
        cases hv : vr (A + p) (B + q) (C + r) (D + s)
        · exact Or.inl ⟨by rw [addS_eq h1 h2, if_neg (by rw [hv]; decide)], addD_i_lt_o _ _ _ _ _ _ _ _ _ _ A B C D 0 0 0 0 0 0 0 0 0 w hc hx hy hr hv⟩
        · rcases hl : low (e + (f - e)) (A + p) (B + q) (C + r) (D + s) with ⟨L, M, N, O, E⟩
          exact Or.inr ⟨L, M, N, O, E, by rw [addS_eq h1 h2, if_pos hv, hl]; rfl, addD_i_lt_t _ _ _ _ _ _ _ _ _ _ A B C D 0 0 0 0 _ _ _ _ _ w hc hx hy hr hv (by rw [← hl, hef])⟩
      · subst hc
        rw [Nat.sub_self] at hr hs
        have hA : (⟨a, b, c, d⟩ : R4) = ⟨A, B, C, D⟩ := by simpa [rais] using hr
        have hP : (⟨p, q, r, s⟩ : R4) = ⟨P, Q, R, S⟩ := by simpa [rais] using hs
        simp only [R4.mk.injEq] at hA hP
        obtain ⟨rfl, rfl, rfl, rfl⟩ := hA
        obtain ⟨rfl, rfl, rfl, rfl⟩ := hP
        have hef : e + (e - e) = e := by omega
        cases hv : vr (a + p) (b + q) (c + r) (d + s)
        · exact Or.inl ⟨by rw [addS_eq h1 h2, if_neg (by rw [hv]; decide)], addD_i_eq_o _ _ _ _ _ _ _ _ _ _ 0 0 0 0 0 0 0 0 0 0 0 0 0 w rfl hx hy hv⟩
        · rcases hl : low (e + (e - e)) (a + p) (b + q) (c + r) (d + s) with ⟨L, M, N, O, E⟩
          exact Or.inr ⟨L, M, N, O, E, by rw [addS_eq h1 h2, if_pos hv, hl]; rfl, addD_i_eq_t _ _ _ _ _ _ _ _ _ _ 0 0 0 0 0 0 0 0 _ _ _ _ _ w rfl hx hy hv (by rw [← hl, hef])⟩
      · have hA : (⟨a, b, c, d⟩ : R4) = ⟨A, B, C, D⟩ := by rw [Nat.sub_eq_zero_of_le (Nat.le_of_lt hc)] at hr; simpa [rais] using hr
        simp only [R4.mk.injEq] at hA
        obtain ⟨rfl, rfl, rfl, rfl⟩ := hA
        have hef : e + (f - e) = e := by omega
        cases hv : vr (a + P) (b + Q) (c + R) (d + S)
        · exact Or.inl ⟨by rw [addS_eq h1 h2, if_neg (by rw [hv]; decide)], addD_i_gt_o _ _ _ _ _ _ _ _ _ _ 0 0 0 0 P Q R S 0 0 0 0 0 w hc hx hy hs (by rw [Int.add_comm P a, Int.add_comm Q b, Int.add_comm R c, Int.add_comm S d]; exact hv)⟩
        · rcases hl : low (e + (f - e)) (a + P) (b + Q) (c + R) (d + S) with ⟨L, M, N, O, E⟩
          exact Or.inr ⟨L, M, N, O, E, by rw [addS_eq h1 h2, if_pos hv, hl]; rfl, addD_i_gt_t _ _ _ _ _ _ _ _ _ _ 0 0 0 0 P Q R S _ _ _ _ _ w hc hx hy hs (by rw [Int.add_comm P a, Int.add_comm Q b, Int.add_comm R c, Int.add_comm S d]; exact hv) (by rw [Int.add_comm P a, Int.add_comm Q b, Int.add_comm R c, Int.add_comm S d, ← hl, hef])⟩
/-- the program's sum of two valid numbers: it fails, or is the model's -/
theorem iadd_f {x y : D5} (hx : x.ok = true) (hy : y.ok = true) (h : (addS false x y).2 = true) (w : World) :
    Calls Try.prog 78 #[x.v, y.v] w fun ee w' => ee = .returned (dt 0 0 0 0 0 false) ∧ Below w.heap.size w w' := by
  obtain ⟨a, b, c, d, e'⟩ := x
  obtain ⟨p, q, r, s, f'⟩ := y
  obtain ⟨e, h1, h2⟩ := ok_nat hx
  obtain ⟨f, k1, k2⟩ := ok_nat hy
  dsimp only at h1 h2 k1 k2
  subst h1 k1
  rcases iadd_key h2 k2 w with ⟨_, hc⟩ | ⟨L, M, N, O, E, hk, _⟩
  · exact hc
  · rw [hk] at h; cases h
theorem iadd_t {x y : D5} (hx : x.ok = true) (hy : y.ok = true) (h : (addS false x y).2 = false) (w : World) :
    Calls Try.prog 78 #[x.v, y.v] w fun ee w' => ee = .returned (.tuple #[(addS false x y).1.v, .bool true]) ∧ Below w.heap.size w w' := by
  obtain ⟨a, b, c, d, e'⟩ := x
  obtain ⟨p, q, r, s, f'⟩ := y
  obtain ⟨e, h1, h2⟩ := ok_nat hx
  obtain ⟨f, k1, k2⟩ := ok_nat hy
  dsimp only at h1 h2 k1 k2
  subst h1 k1
  rcases iadd_key h2 k2 w with ⟨hk, _⟩ | ⟨L, M, N, O, E, hk, hc⟩
  · rw [hk] at h; cases h
  · rw [hk]; exact hc
theorem imul_f {x y : D5} (hx : x.ok = true) (hy : y.ok = true) (h : (mulS false x y).2 = true) (w : World) :
    Calls Try.prog 132 #[x.v, y.v] w fun ee w' => ee = .returned (dt 0 0 0 0 0 false) ∧ Below w.heap.size w w' := by
  obtain ⟨a, b, c, d, e'⟩ := x
  obtain ⟨p, q, r, s, f'⟩ := y
  obtain ⟨e, h1, h2⟩ := ok_nat hx
  obtain ⟨f, k1, k2⟩ := ok_nat hy
  dsimp only at h1 h2 k1 k2
  subst h1 k1
  unfold mulS at h
  simp only [Int.toNat_natCast] at h
  cases hv : vr (m0 a b c d p q r s) (m1 a b c d p q r s) (m2 a b c d p q r s) (m3 a b c d p q r s)
  · exact mulD_i_o _ _ _ _ _ _ _ _ _ _ w h2 k2 hv
  · by_cases hs : e + f ≤ 60
    · rw [if_pos hs, if_pos hv] at h; cases h
    · exact mulD_i_x _ _ _ _ _ _ _ _ _ _ w h2 k2 hs hv
theorem imul_t {x y : D5} (hx : x.ok = true) (hy : y.ok = true) (h : (mulS false x y).2 = false) (w : World) :
    Calls Try.prog 132 #[x.v, y.v] w fun ee w' => ee = .returned (.tuple #[(mulS false x y).1.v, .bool true]) ∧ Below w.heap.size w w' := by
  obtain ⟨a, b, c, d, e'⟩ := x
  obtain ⟨p, q, r, s, f'⟩ := y
  obtain ⟨e, h1, h2⟩ := ok_nat hx
  obtain ⟨f, k1, k2⟩ := ok_nat hy
  dsimp only at h1 h2 k1 k2
  subst h1 k1
  unfold mulS at h ⊢
  simp only [Int.toNat_natCast] at h ⊢
  by_cases hs : e + f ≤ 60
  · cases hv : vr (m0 a b c d p q r s) (m1 a b c d p q r s) (m2 a b c d p q r s) (m3 a b c d p q r s)
    · rw [if_pos hs, if_neg (by rw [hv]; decide)] at h; cases h
    · rw [if_pos hs, if_pos rfl]
      rcases hl : low (e + f) (m0 a b c d p q r s) (m1 a b c d p q r s) (m2 a b c d p q r s) (m3 a b c d p q r s) with ⟨L, M, N, O, E⟩
      exact mulD_i_t _ _ _ _ _ _ _ _ _ _ _ _ _ _ _ w h2 k2 hs hv hl
  · rw [if_neg hs] at h; cases h
attribute [irreducible] addS mulS
end Go.Proofs.Ytgcligmpdlffoaa
namespace Go.Proofs.Ytgcligmpdlffoaa
open Go.RowKit RM
set_option linter.unusedVariables false
set_option linter.unusedSimpArgs false
attribute [local irreducible] World.setCell

theorem addS_zl {z : Bool} {y : D5} (hy : y.ok = true) : addS z z5 y = (y, z) := by
  obtain ⟨a, b, c, d, e'⟩ := y
  obtain ⟨e, k1, k2⟩ := ok_nat hy
  dsimp only at k1 k2
  subst k1
  obtain ⟨h1, h2, h3⟩ := vd_iff.1 k2
  have e1 : (z5.e.toNat - ((e : Int)).toNat) = 0 := by simp [z5]
  have e2 : ((e : Int)).toNat = e := by simp
  have e3 : z5.e.toNat = 0 := rfl
  unfold addS addR
  dsimp only
  rw [e1, e2, e3]
  simp only [z5, raisS, Nat.sub_zero, raisS_0, Int.zero_add, Nat.zero_add, h1, if_true, low_fix h3]
  rfl
theorem mulS_one {z : Bool} {y : D5} (hy : y.ok = true) : mulS z one5 y = (y, z) := by
  obtain ⟨a, b, c, d, e'⟩ := y
  obtain ⟨e, k1, k2⟩ := ok_nat hy
  dsimp only at k1 k2
  subst k1
  obtain ⟨h1, h2, h3⟩ := vd_iff.1 k2
  have e2 : ((e : Int)).toNat = e := by simp
  have e3 : one5.e.toNat = 0 := rfl
  have m0' : ∀ p q r s : Int, m0 1 0 0 0 p q r s = p := by intros; simp [m0]
  have m1' : ∀ p q r s : Int, m1 1 0 0 0 p q r s = q := by intros; simp [m1]
  have m2' : ∀ p q r s : Int, m2 1 0 0 0 p q r s = r := by intros; simp [m2]
  have m3' : ∀ p q r s : Int, m3 1 0 0 0 p q r s = s := by intros; simp [m3]
  unfold mulS
  dsimp only
  rw [e2, e3]
  simp only [one5, m0', m1', m2', m3', Nat.zero_add, h1, h2, if_true, low_fix h3]
  rfl
end Go.Proofs.Ytgcligmpdlffoaa
