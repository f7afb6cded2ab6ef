/- Turns by a power of w. -/
import Derived.Test.YtncgccpkbneagaaZom
import Derived.Test.YtncgccpkbneagaaZomb
import Derived.Test.YtncgccpkbneagaaTurnS
import Derived.Test.YtncgccpkbneagaaMxE
namespace Go.Proofs.Ytncgccpkbneagaa
open Go.RowKit RM
set_option linter.unusedVariables false
set_option linter.unusedSimpArgs false
attribute [local irreducible] World.setCell

def turn (m : Nat) (x : D5) : D5 :=
  match m with
  | 0 => ⟨x.a, x.b, x.c, x.d, x.e⟩
  | 1 => ⟨-x.d, x.a, x.b, x.c, x.e⟩
  | 2 => ⟨-x.c, -x.d, x.a, x.b, x.e⟩
  | 3 => ⟨-x.b, -x.c, -x.d, x.a, x.e⟩
  | 4 => ⟨-x.a, -x.b, -x.c, -x.d, x.e⟩
  | 5 => ⟨x.d, -x.a, -x.b, -x.c, x.e⟩
  | 6 => ⟨x.c, x.d, -x.a, -x.b, x.e⟩
  | _ => ⟨x.b, x.c, x.d, -x.a, x.e⟩
def omP (m : Nat) : D5 := turn m one5
theorem lt8 {m : Nat} (h : m < 8) : m = 0 ∨ m = 1 ∨ m = 2 ∨ m = 3 ∨ m = 4 ∨ m = 5 ∨ m = 6 ∨ m = 7 := by omega
theorem turn_e {m : Nat} {x : D5} : (turn m x).e = x.e := by unfold turn; split <;> rfl
theorem tm8 {k : Int} {m : Nat} (h : k % 8 = (m : Int)) (hm : m < 8) : -7 ≤ k.tmod 8 ∧ k.tmod 8 ≤ 7 ∧ (k.tmod 8 + 8) % 8 = (m : Int) ∧ (k.tmod 8 + 8).tmod 8 = (m : Int) := by
  have h1 : -7 ≤ k.tmod 8 ∧ k.tmod 8 ≤ 7 ∧ (k.tmod 8 + 8) % 8 = (m : Int) := by
    rcases Int.le_total 0 k with h0 | h0
    · rw [Int.tmod_eq_emod_of_nonneg h0]; omega
    · obtain ⟨n, rfl⟩ : ∃ n : Int, k = -n := ⟨-k, by omega⟩
      rw [Int.neg_tmod, Int.tmod_eq_emod_of_nonneg (by omega)]; omega
  refine ⟨h1.1, h1.2.1, h1.2.2, ?_⟩
  rw [Int.tmod_eq_emod_of_nonneg (by omega)]; exact h1.2.2
theorem ev2_iff {a b c d : Int} : ev2 a b c d = true ↔ (a + c) % 2 = 0 ∧ (b + d) % 2 = 0 := by
  unfold ev2
  rw [Bool.and_eq_true, beq_iff_eq, beq_iff_eq, ← Int.dvd_iff_tmod_eq_zero, ← Int.dvd_iff_tmod_eq_zero]; omega
theorem ev2_cong {a b c d p q r s : Int} (h : ((a + c) % 2 = 0 ∧ (b + d) % 2 = 0) ↔ ((p + r) % 2 = 0 ∧ (q + s) % 2 = 0)) : ev2 a b c d = ev2 p q r s := by
  rw [Bool.eq_iff_iff, ev2_iff, ev2_iff]; exact h
theorem turn_vd {m : Nat} {x : D5} {e : Nat} (hm : m < 8) (h : vd x.a x.b x.c x.d e = true) : vd (turn m x).a (turn m x).b (turn m x).c (turn m x).d e = true := by
  obtain ⟨h1, h2, h3⟩ := vd_iff.1 h
  refine vd_iff.2 ?_
  rcases lt8 hm with rfl | rfl | rfl | rfl | rfl | rfl | rfl | rfl
  · exact ⟨vr_turn_0 h1, h2, h3.imp id (fun k => by rw [← k]; exact ev2_cong (by show _ ↔ _; simp only [turn]; try omega))⟩
  · exact ⟨vr_turn_1 h1, h2, h3.imp id (fun k => by rw [← k]; exact ev2_cong (by show _ ↔ _; simp only [turn]; try omega))⟩
  · exact ⟨vr_turn_2 h1, h2, h3.imp id (fun k => by rw [← k]; exact ev2_cong (by show _ ↔ _; simp only [turn]; try omega))⟩
  · exact ⟨vr_turn_3 h1, h2, h3.imp id (fun k => by rw [← k]; exact ev2_cong (by show _ ↔ _; simp only [turn]; try omega))⟩
  · exact ⟨vr_turn_4 h1, h2, h3.imp id (fun k => by rw [← k]; exact ev2_cong (by show _ ↔ _; simp only [turn]; try omega))⟩
  · exact ⟨vr_turn_5 h1, h2, h3.imp id (fun k => by rw [← k]; exact ev2_cong (by show _ ↔ _; simp only [turn]; try omega))⟩
  · exact ⟨vr_turn_6 h1, h2, h3.imp id (fun k => by rw [← k]; exact ev2_cong (by show _ ↔ _; simp only [turn]; try omega))⟩
  · exact ⟨vr_turn_7 h1, h2, h3.imp id (fun k => by rw [← k]; exact ev2_cong (by show _ ↔ _; simp only [turn]; try omega))⟩
theorem turn_ok {m : Nat} {x : D5} (hm : m < 8) (hx : x.ok = true) : (turn m x).ok = true := by
  obtain ⟨e, h1, h2⟩ := ok_nat hx
  have := turn_vd hm h2
  unfold D5.ok
  rw [turn_e, h1, vi_nat]
  exact this
theorem mulS_om {m : Nat} {y : D5} (hm : m < 8) (hy : y.ok = true) : mulS false y (omP m) = (turn m y, false) := by
  obtain ⟨e, k1, k2⟩ := ok_nat hy
  have k3 := turn_vd hm k2
  obtain ⟨h1, h2, h3⟩ := vd_iff.1 k3
  have e2 : y.e.toNat = e := by rw [k1]; simp
  have e3 : (omP m).e.toNat = 0 := by unfold omP; rw [turn_e]; rfl
  have q0 : m0 y.a y.b y.c y.d (omP m).a (omP m).b (omP m).c (omP m).d = (turn m y).a := by
    rcases lt8 hm with rfl | rfl | rfl | rfl | rfl | rfl | rfl | rfl <;> simp [m0, omP, turn, one5]
  have q1 : m1 y.a y.b y.c y.d (omP m).a (omP m).b (omP m).c (omP m).d = (turn m y).b := by
    rcases lt8 hm with rfl | rfl | rfl | rfl | rfl | rfl | rfl | rfl <;> simp [m1, omP, turn, one5]
  have q2 : m2 y.a y.b y.c y.d (omP m).a (omP m).b (omP m).c (omP m).d = (turn m y).c := by
    rcases lt8 hm with rfl | rfl | rfl | rfl | rfl | rfl | rfl | rfl <;> simp [m2, omP, turn, one5]
  have q3 : m3 y.a y.b y.c y.d (omP m).a (omP m).b (omP m).c (omP m).d = (turn m y).d := by
    rcases lt8 hm with rfl | rfl | rfl | rfl | rfl | rfl | rfl | rfl <;> simp [m3, omP, turn, one5]
  have e4 : (turn m y).e = (e : Int) := by rw [turn_e, k1]
  unfold mulS
  rw [e2, e3, q0, q1, q2, q3, if_pos (by omega), if_pos h1, Nat.add_zero, low_fix h3]
  unfold ofDy
  dsimp only
  rw [← e4]
theorem omP_ok {m : Nat} (hm : m < 8) : (omP m).ok = true := turn_ok hm one5_ok
theorem omP_v {m : Nat} : (omP m).v = dy (turn m one5).a (turn m one5).b (turn m one5).c (turn m one5).d 0 := by
  show dy _ _ _ _ (turn m one5).e = _
  rw [turn_e]; rfl
theorem mo_i {a b c d e k : Int} {m : Nat} {w : World} (hm : m < 8) (h : k % 8 = (m : Int)) (g1 : -1000 ≤ k) (g2 : k ≤ 1000) (hx : vr a b c d = true) :
    Calls Try.prog 152 #[rg a b c d, .int .i64 k] w fun ee w' => ee = .returned (rt (turn m ⟨a, b, c, d, e⟩).a (turn m ⟨a, b, c, d, e⟩).b (turn m ⟨a, b, c, d, e⟩).c (turn m ⟨a, b, c, d, e⟩).d true) ∧ Below w.heap.size w w' := by
  obtain ⟨t1, t2, t3, t4⟩ := tm8 h hm
  rcases lt8 hm with rfl | rfl | rfl | rfl | rfl | rfl | rfl | rfl
  · exact omega_i_0 a b c d k w t1 t2 t3 t4 g1 g2 hx
  · exact omega_i_1 a b c d k w t1 t2 t3 t4 g1 g2 hx
  · exact omega_i_2 a b c d k w t1 t2 t3 t4 g1 g2 hx
  · exact omega_i_3 a b c d k w t1 t2 t3 t4 g1 g2 hx
  · exact omega_i_4 a b c d k w t1 t2 t3 t4 g1 g2 hx
  · exact omega_i_5 a b c d k w t1 t2 t3 t4 g1 g2 hx
  · exact omega_i_6 a b c d k w t1 t2 t3 t4 g1 g2 hx
  · exact omega_i_7 a b c d k w t1 t2 t3 t4 g1 g2 hx
theorem tn_s {a b c d e k : Int} {m : Nat} {w : World} (hm : m < 8) (h : k % 8 = (m : Int)) (hx : vr a b c d = true) :
    Calls Try.prog 170 #[rg a b c d, .int .i64 k] w fun ee w' => ee = .returned (rg (turn m ⟨a, b, c, d, e⟩).a (turn m ⟨a, b, c, d, e⟩).b (turn m ⟨a, b, c, d, e⟩).c (turn m ⟨a, b, c, d, e⟩).d) ∧ Below w.heap.size w w' := by
  obtain ⟨t1, t2, t3, t4⟩ := tm8 h hm
  rcases lt8 hm with rfl | rfl | rfl | rfl | rfl | rfl | rfl | rfl
  · exact tn_0 a b c d k w t1 t2 t3 t4 hx
  · exact tn_1 a b c d k w t1 t2 t3 t4 hx
  · exact tn_2 a b c d k w t1 t2 t3 t4 hx
  · exact tn_3 a b c d k w t1 t2 t3 t4 hx
  · exact tn_4 a b c d k w t1 t2 t3 t4 hx
  · exact tn_5 a b c d k w t1 t2 t3 t4 hx
  · exact tn_6 a b c d k w t1 t2 t3 t4 hx
  · exact tn_7 a b c d k w t1 t2 t3 t4 hx
theorem mo_1 {k : Int} {m : Nat} {w : World} (hm : m < 8) (h : k % 8 = (m : Int)) (g1 : -1000 ≤ k) (g2 : k ≤ 1000) :
    Calls Try.prog 152 #[rg 1 0 0 0, .int .i64 k] w fun ee w' => ee = .returned (rt (turn m one5).a (turn m one5).b (turn m one5).c (turn m one5).d true) ∧ Below w.heap.size w w' :=
  mo_i (e := 0) hm h g1 g2 (by decide)

set_option maxRecDepth 100000 in
set_option maxHeartbeats 2000000 in
theorem omp {k : Int} {m : Nat} {w : World} (hm : m < 8) (h : k % 8 = (m : Int)) (g1 : -1000 ≤ k) (g2 : k ≤ 1000) :
    Calls Try.prog 98 #[.int .i64 k] w fun ee w' => ee = .returned (omP m).v ∧ Below w.heap.size w w' := by
  rw [omP_v]
  have HM := hid hm
  have HH := hid h
  clear hm h
  go_enter Try.func98, Try.ntmps98
  go_wp2_with (fail)
  refine (mo_1 HM.out HH.out g1 g2).mono ?_
  rintro ee w1 ⟨rfl, hb1⟩
  obtain ⟨hc1, hf1, _⟩ := bcell hb1; have hz1 := hb1.size; (try simp at hz1); (try have hx10 : w.heap.size < w1.heap.size := (by omega)); (try have hx11 : w.heap.size + 1 < w1.heap.size := (by omega)); (try have hx12 : w.heap.size + 1 + 1 < w1.heap.size := (by omega)); (try have hx13 : w.heap.size + 1 + 1 + 1 < w1.heap.size := (by omega))
  go_wp2_with (fail)
  refine bodyPost_ret (v := dy (turn m one5).a (turn m one5).b (turn m one5).c (turn m one5).d 0) (by first | (simp [results, Try.results98, go_sem, *]; done) | (simp (disch := (first | omega | (simp; done) | (simp; omega))) [results, Try.results98, go_sem, *]; done) | (simp only [results, Try.results98]; go_simp; done)) rfl ⟨rfl, ?_⟩
  (repeat' (first | (with_reducible exact Below.refl _ _) | (with_reducible assumption) | (with_reducible refine Below.alloc ?_ ?_ _) | (with_reducible refine Below.drew ?_) | (with_reducible refine below_drewN ?_ _) | (with_reducible refine Below.setCell ?_ ?_ _) | (with_reducible refine chain ?_ (by assumption) ?_) | omega | (simp; done) | (simp; omega)))

end Go.Proofs.Ytncgccpkbneagaa
