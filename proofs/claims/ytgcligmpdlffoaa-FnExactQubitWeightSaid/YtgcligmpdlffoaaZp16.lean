/- Tu, GmA, Sl, Tab, Ls1 -/
import Derived.Test.YtgcligmpdlffoaaZp2
import Derived.Test.YtgcligmpdlffoaaZp3
import Derived.Test.YtgcligmpdlffoaaZp4
import Derived.Test.YtgcligmpdlffoaaZp5
import Derived.Test.YtgcligmpdlffoaaZp6
import Derived.Test.YtgcligmpdlffoaaZp15
import Derived.Test.YtgcligmpdlffoaaZp1
import Derived.Test.YtgcligmpdlffoaaZp9
import Derived.Laws.OwnMore
import Derived.Deep.AppendLies
import Derived.Deep.Draws
import Derived.Deep.LoopGhost
import Derived.Laws.CopyOwn
import Derived.StillTailTactics
namespace Go.Proofs.Ytgcligmpdlffoaa
open Go.RowKit RM
set_option linter.unusedVariables false
set_option linter.unusedSimpArgs false
attribute [local irreducible] World.setCell

def turn (m : Nat) (x : D5) : D5 :=
  match m with
  | 0 => ⟨x.a, x.b, x.c, x.d, x.e⟩
  | 1 => ⟨-x.d, x.a, x.b, x.c, x.e⟩
  | 2 => ⟨-x.c, -x.d, x.a, x.b, x.e⟩
  | 3 => ⟨-x.b, -x.c, -x.d, x.a, x.e⟩
  | 4 => ⟨-x.a, -x.b, -x.c, -x.d, x.e⟩
  | 5 => ⟨x.d, -x.a, -x.b, -x.c, x.e⟩
  | 6 => ⟨x.c, x.d, -x.a, -x.b, x.e⟩
  | _ => ⟨x.b, x.c, x.d, -x.a, x.e⟩
def omP (m : Nat) : D5 := turn m one5
theorem lt8 {m : Nat} (h : m < 8) : m = 0 ∨ m = 1 ∨ m = 2 ∨ m = 3 ∨ m = 4 ∨ m = 5 ∨ m = 6 ∨ m = 7 := by omega
theorem turn_e {m : Nat} {x : D5} : (turn m x).e = x.e := by unfold turn; split <;> rfl
theorem tm8 {k : Int} {m : Nat} (h : k % 8 = (m : Int)) (hm : m < 8) : -7 ≤ k.tmod 8 ∧ k.tmod 8 ≤ 7 ∧ (k.tmod 8 + 8) % 8 = (m : Int) ∧ (k.tmod 8 + 8).tmod 8 = (m : Int) := by
  have h1 : -7 ≤ k.tmod 8 ∧ k.tmod 8 ≤ 7 ∧ (k.tmod 8 + 8) % 8 = (m : Int) := by
    rcases Int.le_total 0 k with h0 | h0
    · rw [Int.tmod_eq_emod_of_nonneg h0]; omega
    · obtain ⟨n, rfl⟩ : ∃ n : Int, k = -n := ⟨-k, by omega⟩
      rw [Int.neg_tmod, Int.tmod_eq_emod_of_nonneg (by omega)]; omega
  refine ⟨h1.1, h1.2.1, h1.2.2, ?_⟩
  rw [Int.tmod_eq_emod_of_nonneg (by omega)]; exact h1.2.2
theorem ev2_iff {a b c d : Int} : ev2 a b c d = true ↔ (a + c) % 2 = 0 ∧ (b + d) % 2 = 0 := by
  unfold ev2
  rw [Bool.and_eq_true, beq_iff_eq, beq_iff_eq, ← Int.dvd_iff_tmod_eq_zero, ← Int.dvd_iff_tmod_eq_zero]; omega
theorem ev2_cong {a b c d p q r s : Int} (h : ((a + c) % 2 = 0 ∧ (b + d) % 2 = 0) ↔ ((p + r) % 2 = 0 ∧ (q + s) % 2 = 0)) : ev2 a b c d = ev2 p q r s := by
  rw [Bool.eq_iff_iff, ev2_iff, ev2_iff]; exact h
theorem turn_vd {m : Nat} {x : D5} {e : Nat} (hm : m < 8) (h : vd x.a x.b x.c x.d e = true) : vd (turn m x).a (turn m x).b (turn m x).c (turn m x).d e = true := by
  obtain ⟨h1, h2, h3⟩ := vd_iff.1 h
  refine vd_iff.2 ?_
  rcases lt8 hm with rfl | rfl | rfl | rfl | rfl | rfl | rfl | rfl
  · exact ⟨vr_turn_0 h1, h2, h3.imp id (fun k => by rw [← k]; exact ev2_cong (by show _ ↔ _; simp only [turn]; try omega))⟩
  · exact ⟨vr_turn_1 h1, h2, h3.imp id (fun k => by rw [← k]; exact ev2_cong (by show _ ↔ _; simp only [turn]; try omega))⟩
  · exact ⟨vr_turn_2 h1, h2, h3.imp id (fun k => by rw [← k]; exact ev2_cong (by show _ ↔ _; simp only [turn]; try omega))⟩
  · exact ⟨vr_turn_3 h1, h2, h3.imp id (fun k => by rw [← k]; exact ev2_cong (by show _ ↔ _; simp only [turn]; try omega))⟩
  · exact ⟨vr_turn_4 h1, h2, h3.imp id (fun k => by rw [← k]; exact ev2_cong (by show _ ↔ _; simp only [turn]; try omega))⟩
  · exact ⟨vr_turn_5 h1, h2, h3.imp id (fun k => by rw [← k]; exact ev2_cong (by show _ ↔ _; simp only [turn]; try omega))⟩
  · exact ⟨vr_turn_6 h1, h2, h3.imp id (fun k => by rw [← k]; exact ev2_cong (by show _ ↔ _; simp only [turn]; try omega))⟩
  · exact ⟨vr_turn_7 h1, h2, h3.imp id (fun k => by rw [← k]; exact ev2_cong (by show _ ↔ _; simp only [turn]; try omega))⟩
theorem turn_ok {m : Nat} {x : D5} (hm : m < 8) (hx : x.ok = true) : (turn m x).ok = true := by
  obtain ⟨e, h1, h2⟩ := ok_nat hx
  have := turn_vd hm h2
  unfold D5.ok
  rw [turn_e, h1, vi_nat]
  exact this
theorem mulS_om {m : Nat} {y : D5} (hm : m < 8) (hy : y.ok = true) : mulS false y (omP m) = (turn m y, false) := by
  obtain ⟨e, k1, k2⟩ := ok_nat hy
  have k3 := turn_vd hm k2
  obtain ⟨h1, h2, h3⟩ := vd_iff.1 k3
  have e2 : y.e.toNat = e := by rw [k1]; simp
  have e3 : (omP m).e.toNat = 0 := by unfold omP; rw [turn_e]; rfl
  have q0 : m0 y.a y.b y.c y.d (omP m).a (omP m).b (omP m).c (omP m).d = (turn m y).a := by
    rcases lt8 hm with rfl | rfl | rfl | rfl | rfl | rfl | rfl | rfl <;> simp [m0, omP, turn, one5]
  have q1 : m1 y.a y.b y.c y.d (omP m).a (omP m).b (omP m).c (omP m).d = (turn m y).b := by
    rcases lt8 hm with rfl | rfl | rfl | rfl | rfl | rfl | rfl | rfl <;> simp [m1, omP, turn, one5]
  have q2 : m2 y.a y.b y.c y.d (omP m).a (omP m).b (omP m).c (omP m).d = (turn m y).c := by
    rcases lt8 hm with rfl | rfl | rfl | rfl | rfl | rfl | rfl | rfl <;> simp [m2, omP, turn, one5]
  have q3 : m3 y.a y.b y.c y.d (omP m).a (omP m).b (omP m).c (omP m).d = (turn m y).d := by
    rcases lt8 hm with rfl | rfl | rfl | rfl | rfl | rfl | rfl | rfl <;> simp [m3, omP, turn, one5]
  have e4 : (turn m y).e = (e : Int) := by rw [turn_e, k1]
  unfold mulS
  rw [e2, e3, q0, q1, q2, q3, if_pos (by omega), if_pos h1, Nat.add_zero, low_fix h3]
  unfold ofDy
  dsimp only
  rw [← e4]
theorem omP_ok {m : Nat} (hm : m < 8) : (omP m).ok = true := turn_ok hm one5_ok
theorem omP_v {m : Nat} : (omP m).v = dy (turn m one5).a (turn m one5).b (turn m one5).c (turn m one5).d 0 := by
  show dy _ _ _ _ (turn m one5).e = _
  rw [turn_e]; rfl
theorem mo_i {a b c d e k : Int} {m : Nat} {w : World} (hm : m < 8) (h : k % 8 = (m : Int)) (g1 : -1000 ≤ k) (g2 : k ≤ 1000) (hx : vr a b c d = true) :
    Calls Try.prog 151 #[rg a b c d, .int .i64 k] w fun ee w' => ee = .returned (rt (turn m ⟨a, b, c, d, e⟩).a (turn m ⟨a, b, c, d, e⟩).b (turn m ⟨a, b, c, d, e⟩).c (turn m ⟨a, b, c, d, e⟩).d true) ∧ Below w.heap.size w w' := by
  obtain ⟨t1, t2, t3, t4⟩ := tm8 h hm
  rcases lt8 hm with rfl | rfl | rfl | rfl | rfl | rfl | rfl | rfl
  · exact omega_i_0 a b c d k w t1 t2 t3 t4 g1 g2 hx
  · exact omega_i_1 a b c d k w t1 t2 t3 t4 g1 g2 hx
  · exact omega_i_2 a b c d k w t1 t2 t3 t4 g1 g2 hx
  · exact omega_i_3 a b c d k w t1 t2 t3 t4 g1 g2 hx
  · exact omega_i_4 a b c d k w t1 t2 t3 t4 g1 g2 hx
  · exact omega_i_5 a b c d k w t1 t2 t3 t4 g1 g2 hx
  · exact omega_i_6 a b c d k w t1 t2 t3 t4 g1 g2 hx
  · exact omega_i_7 a b c d k w t1 t2 t3 t4 g1 g2 hx
theorem tn_s {a b c d e k : Int} {m : Nat} {w : World} (hm : m < 8) (h : k % 8 = (m : Int)) (hx : vr a b c d = true) :
    Calls Try.prog 162 #[rg a b c d, .int .i64 k] w fun ee w' => ee = .returned (rg (turn m ⟨a, b, c, d, e⟩).a (turn m ⟨a, b, c, d, e⟩).b (turn m ⟨a, b, c, d, e⟩).c (turn m ⟨a, b, c, d, e⟩).d) ∧ Below w.heap.size w w' := by
  obtain ⟨t1, t2, t3, t4⟩ := tm8 h hm
  rcases lt8 hm with rfl | rfl | rfl | rfl | rfl | rfl | rfl | rfl
  · exact tn_0 a b c d k w t1 t2 t3 t4 hx
  · exact tn_1 a b c d k w t1 t2 t3 t4 hx
  · exact tn_2 a b c d k w t1 t2 t3 t4 hx
  · exact tn_3 a b c d k w t1 t2 t3 t4 hx
  · exact tn_4 a b c d k w t1 t2 t3 t4 hx
  · exact tn_5 a b c d k w t1 t2 t3 t4 hx
  · exact tn_6 a b c d k w t1 t2 t3 t4 hx
  · exact tn_7 a b c d k w t1 t2 t3 t4 hx
theorem mo_1 {k : Int} {m : Nat} {w : World} (hm : m < 8) (h : k % 8 = (m : Int)) (g1 : -1000 ≤ k) (g2 : k ≤ 1000) :
    Calls Try.prog 151 #[rg 1 0 0 0, .int .i64 k] w fun ee w' => ee = .returned (rt (turn m one5).a (turn m one5).b (turn m one5).c (turn m one5).d true) ∧ Below w.heap.size w w' :=
  mo_i (e := 0) hm h g1 g2 (by decide)

set_option maxRecDepth 100000 in
set_option maxHeartbeats 2000000 in
theorem omp {k : Int} {m : Nat} {w : World} (hm : m < 8) (h : k % 8 = (m : Int)) (g1 : -1000 ≤ k) (g2 : k ≤ 1000) :
    Calls Try.prog 91 #[.int .i64 k] w fun ee w' => ee = .returned (omP m).v ∧ Below w.heap.size w w' := by
  rw [omP_v]
  have HM := hid hm
  have HH := hid h
  clear hm h
  go_enter Try.func91, Try.ntmps91
  go_wp2_with (fail)
  refine (mo_1 HM.out HH.out g1 g2).mono ?_
  rintro ee w1 ⟨rfl, hb1⟩
  obtain ⟨hc1, hf1, _⟩ := bcell hb1; have hz1 := hb1.size; (try simp at hz1); (try have hx10 : w.heap.size < w1.heap.size := (by omega)); (try have hx11 : w.heap.size + 1 < w1.heap.size := (by omega)); (try have hx12 : w.heap.size + 1 + 1 < w1.heap.size := (by omega)); (try have hx13 : w.heap.size + 1 + 1 + 1 < w1.heap.size := (by omega))
  go_wp2_with (fail)
  refine bodyPost_ret (v := dy (turn m one5).a (turn m one5).b (turn m one5).c (turn m one5).d 0) (by first | (simp [results, Try.results91, go_sem, *]; done) | (simp (disch := (first | omega | (simp; done) | (simp; omega))) [results, Try.results91, go_sem, *]; done) | (simp only [results, Try.results91]; go_simp; done)) rfl ⟨rfl, ?_⟩
  (repeat' (first | (with_reducible exact Below.refl _ _) | (with_reducible assumption) | (with_reducible refine Below.alloc ?_ ?_ _) | (with_reducible refine Below.drew ?_) | (with_reducible refine below_drewN ?_ _) | (with_reducible refine Below.setCell ?_ ?_ _) | (with_reducible refine chain ?_ (by assumption) ?_) | omega | (simp; done) | (simp; omega)))

end Go.Proofs.Ytgcligmpdlffoaa
namespace Go.Proofs.Ytgcligmpdlffoaa.GM
/-- the number in which qubit q alone is 1 -/
def msk (n q : Nat) : Nat := 2 ^ (n - 1 - q)
def bitI (n k q : Nat) : Nat := bif (k &&& msk n q).beq 0 then 0 else 1
def bitS (n k q : Nat) : Nat := k / msk n q % 2
/-- the program: what a gate of one term makes of a basis state: its number and the power of w (modulo 8) -/
def act (n kind A B c : Nat) : Nat × Nat :=
  match kind with
  | 2 => (c ^^^ msk n A, 0)
  | 3 => (c ^^^ msk n A, 4 * bitI n c A + 2)
  | 4 => (c, 4 * bitI n c A)
  | 5 => (c, 2 * bitI n c A)
  | 6 => (c, (8 - 2 * bitI n c A) % 8)
  | 7 => (c, bitI n c A)
  | 8 => (c, (8 - bitI n c A) % 8)
  | 9 => (bif (bitI n c A).beq 0 then c else c ^^^ msk n B, 0)
  | 10 => (c, 4 * bitI n c A * bitI n c B)
  | 11 => (bif (bitI n c A).beq (bitI n c B) then c else c ^^^ msk n A ^^^ msk n B, 0)
  | _ => (c, 1)
/-- cells by code: 0: zero; 1 + k + 8 e: the k-th power of w by the e-th power of the square root of 2 -/
def gI (n kind A B r c : Nat) : Nat :=
  match kind with
  | 1 => bif r.beq c then 9 + 4 * bitI n c A else bif r.beq (c ^^^ msk n A) then 9 else 0
  | _ => bif r.beq (act n kind A B c).1 then 1 + (act n kind A B c).2 % 8 else 0
def one (kind : Nat) : Nat → Nat :=
  match kind with
  | 1 => fun i => bif i.beq 3 then 13 else 9
  | 2 => fun i => bif i.beq 0 then 0 else bif i.beq 3 then 0 else 1
  | 3 => fun i => bif i.beq 1 then 7 else bif i.beq 2 then 3 else 0
  | k => fun i => bif i.beq 0 then 1 else bif i.beq 3 then (match k with | 4 => 5 | 5 => 3 | 6 => 7 | 7 => 2 | _ => 8) else 0
/-- the model -/
def gS (n kind A B r c : Nat) : Nat :=
  match kind with
  | 12 => bif r.beq c then 2 else 0
  | 9 => bif r.beq (bif (bitS n c A).beq 1 then c ^^^ msk n B else c) then 1 else 0
  | 10 => bif r.beq c then (bif (bitS n c A).beq 1 && (bitS n c B).beq 1 then 5 else 1) else 0
  | 11 => bif r.beq (bif (bitS n c A).beq (bitS n c B) then c else c ^^^ msk n A ^^^ msk n B) then 1 else 0
  | k => bif ((r ^^^ c) - ((r ^^^ c) &&& msk n A)).beq 0 then one k (2 * bitS n r A + bitS n c A) else 0
def allN : Nat → (Nat → Bool) → Bool
  | 0, _ => true
  | n + 1, f => f n && allN n f
theorem allN_get {n : Nat} {f : Nat → Bool} (h : allN n f = true) {k : Nat} (hk : k < n) : f k = true := by
  induction n with
  | zero => omega
  | succ n ih =>
    simp only [allN, Bool.and_eq_true] at h
    by_cases e : k = n
    · subst e; exact h.1
    · exact ih h.2 (by omega)
def chk (n kind A B : Nat) : Bool := allN (2 ^ n) fun r => allN (2 ^ n) fun c => (gI n kind A B r c).beq (gS n kind A B r c)
def chk1 (n : Nat) : Bool := allN n fun A => allN 8 fun k => chk n (k + 1) A 0
def chk2 (n : Nat) : Bool := allN n fun A => allN n fun B => A.beq B || allN 3 fun k => chk n (k + 9) A B
set_option maxRecDepth 1000000 in
theorem c11 : chk1 1 = true := by decide +kernel
set_option maxRecDepth 1000000 in
theorem c12 : chk1 2 = true := by decide +kernel
set_option maxRecDepth 1000000 in
theorem c13 : chk1 3 = true := by decide +kernel
set_option maxRecDepth 1000000 in
theorem c14 : chk1 4 = true := by decide +kernel
set_option maxRecDepth 1000000 in
theorem c22 : chk2 2 = true := by decide +kernel
set_option maxRecDepth 1000000 in
theorem c23 : chk2 3 = true := by decide +kernel
set_option maxRecDepth 1000000 in
theorem c24 : chk2 4 = true := by decide +kernel
set_option maxRecDepth 1000000 in
theorem c15 : chk1 5 = true := by decide +kernel
set_option maxRecDepth 1000000 in
theorem c25 : chk2 5 = true := by decide +kernel
set_option maxRecDepth 1000000 in
theorem cw : (allN 5 fun n => chk (n + 1) 12 0 0) = true := by decide +kernel
/-- a valid gate, by its three numbers -/
def okG (n kind A B : Nat) : Prop := 1 ≤ n ∧ n ≤ 5 ∧ ((1 ≤ kind ∧ kind ≤ 8 ∧ A < n ∧ B = 0) ∨ (9 ≤ kind ∧ kind ≤ 11 ∧ A < n ∧ B < n ∧ A ≠ B) ∨ (kind = 12 ∧ A = 0 ∧ B = 0))
theorem beqEq {a b : Nat} (h : a.beq b = true) : a = b := Nat.eq_of_beq_eq_true h
theorem chk1_n {n : Nat} (h1 : 1 ≤ n) (h2 : n ≤ 5) : chk1 n = true := by
  have : n = 1 ∨ n = 2 ∨ n = 3 ∨ n = 4 ∨ n = 5 := by omega
  rcases this with rfl | rfl | rfl | rfl | rfl
  · exact c11
  · exact c12
  · exact c13
  · exact c14
  · exact c15
theorem chk2_n {n : Nat} (h1 : 2 ≤ n) (h2 : n ≤ 5) : chk2 n = true := by
  have : n = 2 ∨ n = 3 ∨ n = 4 ∨ n = 5 := by omega
  rcases this with rfl | rfl | rfl | rfl
  · exact c22
  · exact c23
  · exact c24
  · exact c25
theorem chk_ok {n kind A B : Nat} (h : okG n kind A B) : chk n kind A B = true := by
  obtain ⟨h1, h2, h3⟩ := h
  rcases h3 with ⟨k1, k2, k3, rfl⟩ | ⟨k1, k2, k3, k4, k5⟩ | ⟨rfl, rfl, rfl⟩
  · have := allN_get (allN_get (chk1_n h1 h2) k3) (k := kind - 1) (by omega)
    rwa [show kind - 1 + 1 = kind by omega] at this
  · have := allN_get (allN_get (chk2_n (by omega) h2) k3) k4
    rw [Bool.or_eq_true] at this
    rcases this with h | h
    · exact absurd (beqEq h) k5
    · have := allN_get h (k := kind - 9) (by omega)
      rwa [show kind - 9 + 9 = kind by omega] at this
  · have := allN_get cw (k := n - 1) (by omega)
    rwa [show n - 1 + 1 = n by omega] at this
theorem gI_gS {n kind A B r c : Nat} (h : okG n kind A B) (hr : r < 2 ^ n) (hc : c < 2 ^ n) : gI n kind A B r c = gS n kind A B r c :=
  beqEq (allN_get (allN_get (chk_ok h) hr) hc)
theorem msk_lt {n q : Nat} (h : q < n) : msk n q < 2 ^ n := Nat.pow_lt_pow_right (by decide) (by omega)
theorem flip_lt {n q c : Nat} (hc : c < 2 ^ n) (h : q < n) : c ^^^ msk n q < 2 ^ n := Nat.xor_lt_two_pow hc (msk_lt h)
theorem pow_le {n : Nat} (h : n ≤ 5) : 2 ^ n ≤ 32 := Nat.pow_le_pow_right (by decide) h
theorem bitI_01 {n c q : Nat} : bitI n c q = 0 ∨ bitI n c q = 1 := by unfold bitI; cases (c &&& msk n q).beq 0 <;> simp
theorem bitI_iff {n c q : Nat} : bitI n c q = 0 ↔ c &&& msk n q = 0 := by
  unfold bitI
  cases h : (c &&& msk n q).beq 0
  · constructor
    · intro h2; simp at h2
    · intro h2; rw [h2] at h; simp at h
  · simp only [cond_true, true_iff]; exact beqEq h
end Go.Proofs.Ytgcligmpdlffoaa.GM
namespace Go.Proofs.Ytgcligmpdlffoaa
open Go.RowKit RM
set_option linter.unusedVariables false
set_option linter.unusedSimpArgs false

theorem below_drewN {B : Nat} {a w : World} (h : Below B a w) (n : Nat) : Below B a (w.drewN n) := h.trans ⟨rfl, rfl, rfl, Nat.le_refl _, fun _ _ => rfl⟩
def D5.cs (x : D5) : List Value := [.int .i64 x.a, .int .i64 x.b, .int .i64 x.c, .int .i64 x.d, .int .i64 x.e]
def csL : List D5 → List Value
  | [] => []
  | x :: xs => x.cs ++ csL xs
theorem csL_len (xs : List D5) : (csL xs).length = xs.length * 5 := by
  induction xs with
  | nil => rfl
  | cons x xs ih => simp only [csL, List.length_append, ih, D5.cs, List.length_cons, List.length_nil]; omega
theorem csL_app (xs ys : List D5) : csL (xs ++ ys) = csL xs ++ csL ys := by
  induction xs with
  | nil => rfl
  | cons x xs ih => simp only [List.cons_append, csL, ih, List.append_assoc]
theorem csL_get {xs : List D5} {k : Nat} {x : D5} (h : xs[k]? = some x) : (csL xs)[k * 5]? = some (.int .i64 x.a) ∧ (csL xs)[k * 5 + 1]? = some (.int .i64 x.b) ∧ (csL xs)[k * 5 + 2]? = some (.int .i64 x.c) ∧ (csL xs)[k * 5 + 3]? = some (.int .i64 x.d) ∧ (csL xs)[k * 5 + 4]? = some (.int .i64 x.e) := by
  induction xs generalizing k with
  | nil => simp at h
  | cons y ys ih =>
    cases k with
    | zero =>
      simp only [List.getElem?_cons_zero, Option.some.injEq] at h
      subst h
      exact ⟨rfl, rfl, rfl, rfl, rfl⟩
    | succ k =>
      obtain ⟨h0, h1, h2, h3, h4⟩ := ih (k := k) (by simpa using h)
      have e : (csL (y :: ys)) = y.cs ++ csL ys := rfl
      have hl : y.cs.length = 5 := rfl
      rw [e]
      refine ⟨?_, ?_, ?_, ?_, ?_⟩
      all_goals (rw [List.getElem?_append_right (by omega), hl])
      · rw [show (k + 1) * 5 - 5 = k * 5 by omega]; exact h0
      · rw [show (k + 1) * 5 + 1 - 5 = k * 5 + 1 by omega]; exact h1
      · rw [show (k + 1) * 5 + 2 - 5 = k * 5 + 2 by omega]; exact h2
      · rw [show (k + 1) * 5 + 3 - 5 = k * 5 + 3 by omega]; exact h3
      · rw [show (k + 1) * 5 + 4 - 5 = k * 5 + 4 by omega]; exact h4
theorem csL_set {xs : List D5} {k : Nat} (x : D5) (h : k < xs.length) : csL (xs.set k x) = (((((csL xs).set (k * 5) (.int .i64 x.a)).set (k * 5 + 1) (.int .i64 x.b)).set (k * 5 + 2) (.int .i64 x.c)).set (k * 5 + 3) (.int .i64 x.d)).set (k * 5 + 4) (.int .i64 x.e) := by
  induction xs generalizing k with
  | nil => simp at h
  | cons y ys ih =>
    cases k with
    | zero => rfl
    | succ k =>
      have := ih (k := k) (by simpa using h)
      rw [List.set_cons_succ]
      show y.cs ++ csL (ys.set k x) = _
      rw [this]
      have e : (csL (y :: ys)) = y.cs ++ csL ys := rfl
      have hl : y.cs.length = 5 := rfl
      rw [e]
      have hset : ∀ (l : List Value) (j : Nat) (u : Value), (y.cs ++ l).set (j + 5) u = y.cs ++ l.set j u := by
        intro l j u
        rw [List.set_append_right _ _ (by omega), hl]
        congr 2
      rw [show (k + 1) * 5 = k * 5 + 5 by omega, show k * 5 + 5 + 1 = k * 5 + 1 + 5 by omega, show k * 5 + 5 + 2 = k * 5 + 2 + 5 by omega, show k * 5 + 5 + 3 = k * 5 + 3 + 5 by omega, show k * 5 + 5 + 4 = k * 5 + 4 + 5 by omega]
      simp only [hset]

/-- five cells of a number at an offset of a block -/
structure Cx (W : World) (g o : Nat) (x : D5) : Prop where
  c0 : W.cell? ⟨g, o, none⟩ = some (.int .i64 x.a)
  c1 : W.cell? ⟨g, o + 1, none⟩ = some (.int .i64 x.b)
  c2 : W.cell? ⟨g, o + 2, none⟩ = some (.int .i64 x.c)
  c3 : W.cell? ⟨g, o + 3, none⟩ = some (.int .i64 x.d)
  c4 : W.cell? ⟨g, o + 4, none⟩ = some (.int .i64 x.e)
theorem Cx.lt {W : World} {g o : Nat} {x : D5} (h : Cx W g o x) : g < W.heap.size := World.block_lt_of_cell? W _ h.c0
theorem Cx.at_ {W W' : World} {g o : Nat} {x : D5} (h : Cx W g o x) (hb : W'.heap[g]? = W.heap[g]?) : Cx W' g o x :=
  ⟨(World.cell?_of_block (a := ⟨g, o, none⟩) hb).trans h.c0, (World.cell?_of_block (a := ⟨g, o + 1, none⟩) hb).trans h.c1, (World.cell?_of_block (a := ⟨g, o + 2, none⟩) hb).trans h.c2, (World.cell?_of_block (a := ⟨g, o + 3, none⟩) hb).trans h.c3, (World.cell?_of_block (a := ⟨g, o + 4, none⟩) hb).trans h.c4⟩
/-- a slice's address under which these numbers lie -/
def Rd (W : World) (A : Option Addr) (xs : List D5) : Prop := ∀ k x, xs[k]? = some x → ∃ g o, A = some ⟨g, o, none⟩ ∧ Cx W g (o + k * 5) x
theorem Rd.at_ {W W' : World} {A : Option Addr} {xs : List D5} (h : Rd W A xs) (hb : ∀ a, A = some a → W'.heap[a.block]? = W.heap[a.block]?) : Rd W' A xs := by
  intro k x hk
  obtain ⟨g, o, rfl, hc⟩ := h k x hk
  exact ⟨g, o, rfl, hc.at_ (hb _ rfl)⟩
theorem Rd.mono {W W' : World} {A : Option Addr} {xs : List D5} (h : Rd W A xs) (hb : Below W.heap.size W W') : Rd W' A xs := by
  intro k x hk
  obtain ⟨g, o, rfl, hc⟩ := h k x hk
  exact ⟨g, o, rfl, hc.at_ (hb.block g hc.lt)⟩
theorem Rd.nil (W : World) (A : Option Addr) : Rd W A [] := fun k x h => by simp at h
theorem Rd.sub {W : World} {g o : Nat} {xs : List D5} (h : Rd W (some ⟨g, o, none⟩) xs) (i : Nat) : Rd W (some ⟨g, o + i * 5, none⟩) (xs.drop i) := by
  intro k x hk
  rw [List.getElem?_drop] at hk
  obtain ⟨g', o', he, hc⟩ := h _ _ hk
  simp only [Option.some.injEq, Addr.mk.injEq, and_true] at he
  obtain ⟨rfl, rfl⟩ := he
  exact ⟨g, o + i * 5, rfl, by rw [Nat.add_assoc, ← Nat.add_mul]; exact hc⟩
theorem Rd.take {W : World} {A : Option Addr} {xs : List D5} (h : Rd W A xs) (n : Nat) : Rd W A (xs.take n) := by
  intro k x hk
  rw [List.getElem?_take] at hk
  split at hk
  · exact h _ _ hk
  · cases hk

/-- a block of the call's own that holds these numbers and nothing else -/
def Bk (W : World) (g : Nat) (t : TypeId) (xs : List D5) : Prop := W.heap[g]? = some (.cells (csL xs).toArray t (0, 0))
theorem Bk.lt {W : World} {g : Nat} {t : TypeId} {xs : List D5} (h : Bk W g t xs) : g < W.heap.size := (Array.getElem?_eq_some_iff.1 h).1
theorem Bk.cx {W : World} {g : Nat} {t : TypeId} {xs : List D5} (h : Bk W g t xs) {k : Nat} {x : D5} (hk : xs[k]? = some x) : Cx W g (k * 5) x := by
  obtain ⟨h0, h1, h2, h3, h4⟩ := csL_get hk
  have hc := fun i => cell_of_row W g i _ t (0, 0) h
  exact ⟨by rw [hc]; simpa using h0, by rw [hc]; simpa using h1, by rw [hc]; simpa using h2, by rw [hc]; simpa using h3, by rw [hc]; simpa using h4⟩
theorem Bk.rd {W : World} {g : Nat} {t : TypeId} {xs : List D5} (h : Bk W g t xs) : Rd W (some ⟨g, 0, none⟩) xs := fun k x hk => ⟨g, 0, rfl, by rw [Nat.zero_add]; exact h.cx hk⟩
theorem Bk.fr {W : World} {g : Nat} {t : TypeId} {xs : List D5} (h : Bk W g t xs) (i : Nat) : W.frozen? ⟨g, i, none⟩ = false := frozen_of_row W g i _ t h
theorem Bk.mono {W W' : World} {g : Nat} {t : TypeId} {xs : List D5} (h : Bk W g t xs) (hb : Below W.heap.size W W') : Bk W' g t xs := (hb.block g h.lt).trans h
theorem Bk.at_ {W W' : World} {g : Nat} {t : TypeId} {xs : List D5} (h : Bk W g t xs) (hb : W'.heap[g]? = W.heap[g]?) : Bk W' g t xs := hb.trans h
theorem Bk.alloc {W : World} {g : Nat} {t : TypeId} {xs : List D5} (h : Bk W g t xs) (o : Obj) : Bk (W.alloc o) g t xs := (Below.heap_alloc W o g h.lt).trans h
theorem Bk.far {W : World} {g : Nat} {t : TypeId} {xs : List D5} (h : Bk W g t xs) {p : Addr} (hp : g ≠ p.block) (u : Value) : Bk (W.setCell p u) g t xs := (Below.heap_setCell W p u g hp).trans h
/-- the five stores of a number -/
def set5 (W : World) (g o : Nat) (x : D5) : World := ((((W.setCell ⟨g, o, none⟩ (.int .i64 x.a)).setCell ⟨g, o + 1, none⟩ (.int .i64 x.b)).setCell ⟨g, o + 2, none⟩ (.int .i64 x.c)).setCell ⟨g, o + 3, none⟩ (.int .i64 x.d)).setCell ⟨g, o + 4, none⟩ (.int .i64 x.e)
theorem Bk.set {W : World} {g : Nat} {t : TypeId} {xs : List D5} (h : Bk W g t xs) {k : Nat} (x : D5) (hk : k < xs.length) : Bk (set5 W g (k * 5) x) g t (xs.set k x) := by
  have h0 : W.heap[g]? = some (.cells (csL xs).toArray t (0, 0)) := h
  have h1 := heap_setCell_same _ g (k * 5) _ t (.int .i64 x.a) h0
  have h2 := heap_setCell_same _ g (k * 5 + 1) _ t (.int .i64 x.b) h1
  have h3 := heap_setCell_same _ g (k * 5 + 2) _ t (.int .i64 x.c) h2
  have h4 := heap_setCell_same _ g (k * 5 + 3) _ t (.int .i64 x.d) h3
  have h5 := heap_setCell_same _ g (k * 5 + 4) _ t (.int .i64 x.e) h4
  unfold Bk
  rw [csL_set x hk]
  refine h5.trans ?_
  simp only [List.setIfInBounds_toArray]
theorem set5_below {B : Nat} {a W : World} {g o : Nat} {x : D5} (h : Below B a W) (hg : B ≤ g) : Below B a (set5 W g o x) := ((((h.setCell (p := ⟨g, o, none⟩) hg _).setCell (p := ⟨g, o + 1, none⟩) hg _).setCell (p := ⟨g, o + 2, none⟩) hg _).setCell (p := ⟨g, o + 3, none⟩) hg _).setCell (p := ⟨g, o + 4, none⟩) hg _
theorem set5_far {W : World} {g o k : Nat} {x : D5} (h : k ≠ g) : (set5 W g o x).heap[k]? = W.heap[k]? := by
  unfold set5
  rw [Below.heap_setCell _ _ _ _ h, Below.heap_setCell _ _ _ _ h, Below.heap_setCell _ _ _ _ h, Below.heap_setCell _ _ _ _ h, Below.heap_setCell _ _ _ _ h]
theorem madeL (n : Nat) : (madeCells #[.int .i64 0, .int .i64 0, .int .i64 0, .int .i64 0, .int .i64 0] (n * 5)).toList = csL (List.replicate n z5) := by
  apply List.ext_getElem?
  intro j
  by_cases hj : j < n * 5
  · obtain ⟨q, r, rfl, hr⟩ : ∃ q r, j = q * 5 + r ∧ r < 5 := ⟨j / 5, j % 5, by omega, Nat.mod_lt _ (by omega)⟩
    have h5 : (List.replicate n z5)[q]? = some z5 := by rw [List.getElem?_replicate]; rw [if_pos (by omega)]
    obtain ⟨h0, h1, h2, h3, h4⟩ := csL_get h5
    have hm : (madeCells #[Value.int .i64 0, .int .i64 0, .int .i64 0, .int .i64 0, .int .i64 0] (n * 5)).toList[q * 5 + r]? = some (.int .i64 0) := by
      simp only [madeCells, Array.toList_map, Array.toList_range, List.getElem?_map, List.getElem?_range hj, Option.map_some]
      show some ((#[Value.int .i64 0, .int .i64 0, .int .i64 0, .int .i64 0, .int .i64 0] : Array Value)[(q * 5 + r) % 5]!) = _
      rw [show (q * 5 + r) % 5 = r by omega]
      have : r = 0 ∨ r = 1 ∨ r = 2 ∨ r = 3 ∨ r = 4 := by omega
      rcases this with k | k | k | k | k <;> rw [k] <;> rfl
    rw [hm]
    have : r = 0 ∨ r = 1 ∨ r = 2 ∨ r = 3 ∨ r = 4 := by omega
    rcases this with k | k | k | k | k
    · rw [k]; exact h0.symm
    · rw [k]; exact h1.symm
    · rw [k]; exact h2.symm
    · rw [k]; exact h3.symm
    · rw [k]; exact h4.symm
  · have h1 : (csL (List.replicate n z5)).length = n * 5 := by rw [csL_len, List.length_replicate]
    rw [List.getElem?_eq_none (by rw [Array.length_toList, size_madeCells]; omega), List.getElem?_eq_none (by omega)]
theorem madeA (n : Nat) : madeCells #[.int .i64 0, .int .i64 0, .int .i64 0, .int .i64 0, .int .i64 0] (n * 5) = (csL (List.replicate n z5)).toArray := by
  rw [← madeL]
theorem Bk.made (W : World) (t : TypeId) (n : Nat) : Bk (W.alloc (.cells (csL (List.replicate n z5)).toArray t)) W.heap.size t (List.replicate n z5) := heap_alloc_new W _
theorem addr_add (g o j : Nat) : (⟨g, o, none⟩ : Addr).add j = ⟨g, o + j, none⟩ := by unfold Addr.add; split <;> simp_all
theorem csL_at {W : World} {g o : Nat} {ys : List D5} (h : Rd W (some ⟨g, o, none⟩) ys) : ∀ j v, (csL ys)[j]? = some v → W.cell? ((⟨g, o, none⟩ : Addr).add j) = some v := by
  intro j v hj
  have hl : j < ys.length * 5 := by
    have := (List.getElem?_eq_some_iff.1 hj).1
    rwa [csL_len] at this
  have hk : j / 5 < ys.length := by omega
  have hx : ys[j / 5]? = some ys[j / 5] := List.getElem?_eq_getElem hk
  obtain ⟨g', o', he, hc⟩ := h _ _ hx
  simp only [Option.some.injEq, Addr.mk.injEq, and_true] at he
  obtain ⟨rfl, rfl⟩ := he
  obtain ⟨h0, h1, h2, h3, h4⟩ := csL_get hx
  rw [addr_add]
  have : j % 5 = 0 ∨ j % 5 = 1 ∨ j % 5 = 2 ∨ j % 5 = 3 ∨ j % 5 = 4 := by omega
  rcases this with k | k | k | k | k
  · have e : j = j / 5 * 5 := by omega
    rw [e] at hj ⊢; rw [h0] at hj; rw [← hj]; exact hc.c0
  · have e : j = j / 5 * 5 + 1 := by omega
    rw [e] at hj ⊢; rw [h1] at hj; rw [← hj]; exact hc.c1
  · have e : j = j / 5 * 5 + 2 := by omega
    rw [e] at hj ⊢; rw [h2] at hj; rw [← hj]; exact hc.c2
  · have e : j = j / 5 * 5 + 3 := by omega
    rw [e] at hj ⊢; rw [h3] at hj; rw [← hj]; exact hc.c3
  · have e : j = j / 5 * 5 + 4 := by omega
    rw [e] at hj ⊢; rw [h4] at hj; rw [← hj]; exact hc.c4
theorem csL_one (xs : List D5) : ∀ v ∈ csL xs, v.oneCell' = true := by
  induction xs with
  | nil => intro v h; cases h
  | cons x xs ih =>
    intro v h
    rcases List.mem_append.1 h with h | h
    · simp only [D5.cs, List.mem_cons, List.not_mem_nil, or_false] at h
      rcases h with rfl | rfl | rfl | rfl | rfl <;> rfl
    · exact ih v h
theorem csL_take (xs : List D5) (n : Nat) : csL (xs.take n) = (csL xs).take (n * 5) := by
  induction xs generalizing n with
  | nil => simp [csL]
  | cons x xs ih =>
    cases n with
    | zero => simp [csL]
    | succ n =>
      rw [List.take_succ_cons]
      show x.cs ++ csL (xs.take n) = _
      rw [ih]
      show _ = (x.cs ++ csL xs).take ((n + 1) * 5)
      rw [List.take_append, show x.cs.length = 5 from rfl, show (n + 1) * 5 - 5 = n * 5 by omega, List.take_of_length_le (l := x.cs) (by show 5 ≤ _; omega)]
theorem csL_drop (xs : List D5) (n : Nat) : csL (xs.drop n) = (csL xs).drop (n * 5) := by
  induction xs generalizing n with
  | nil => simp [csL]
  | cons x xs ih =>
    cases n with
    | zero => simp [csL]
    | succ n =>
      rw [List.drop_succ_cons, ih]
      show _ = (x.cs ++ csL xs).drop ((n + 1) * 5)
      rw [List.drop_append, show x.cs.length = 5 from rfl, show (n + 1) * 5 - 5 = n * 5 by omega, List.drop_of_length_le (l := x.cs) (by show 5 ≤ _; omega), List.nil_append]

/-- copy of numbers into a block of the call's own -/
theorem run_copy5 {P : Program} (w : World) (dT sT ty elem : TypeId) (g o dLen dCap : Nat) (a : Addr) (sLen sCap m : Nat) (cur : Array Value) (t : TypeId) (cs : List Value)
    (hu : P.underlying dT = some (.slice elem)) (hs : (P.info? elem).map (·.size) = some 5)
    (hg : w.heap[g]? = some (.cells cur t (0, 0))) (hm : m = Nat.min sLen dLen) (hn : cs.length = m * 5)
    (hsrc : ∀ j v, cs[j]? = some v → w.cell? (a.add j) = some v) (hfit : o + cs.length ≤ cur.size) (h1 : ∀ v ∈ cs, v.oneCell' = true) :
    (Builtin.copy_ #[dT, sT] ty #[.slice (some ⟨g, o, none⟩) dLen dCap, .slice (some a) sLen sCap]).run P w =
      .ok (goInt m) (w.setRow g (cur.toList.take o ++ cs ++ cur.toList.drop (o + cs.length)).toArray) := by
  have hl := run_loadCells_list (P := P) w a cs hsrc
  have hst := run_storeCells_at P g o t cs 0 cur w hg (by simpa using hfit) h1
  cases hq : P.info? elem with
  | none => simp [hq] at hs
  | some i =>
    have hi : i.size = 5 := by simpa [hq] using hs
    rw [hn] at hl
    simp [Builtin.copy_, run_underlying hu, Builtin.lenOf, Builtin.firstCells, sizeOf, typeInfo, hq, hi, ← hm, hl, hst]
theorem wpList_copy5 {P : Program} {w : World} {ops : Array Oper} {rest : List Oper} {o : Oper} {a : Act} {Q : Exit → Act → World → Prop} (hgd : o.guard = none) (d s : Operand) (dT sT : TypeId)
    (ho : o.op = .call { callee := .builtin .copy, args := #[d, s], argTypes := #[dT, sT] }) (elem : TypeId) (hu : P.underlying dT = some (.slice elem)) (hsz : (P.info? elem).map (·.size) = some 5)
    (g k off m dCap : Nat) (sg so sCap : Nat) (hd : a.eval d = .slice (some ⟨g, off, none⟩) m dCap) (hs : a.eval s = .slice (some ⟨sg, so, none⟩) m sCap) (hoff : off = k * 5)
    (cur ys : List D5) (t : TypeId) (hg : Bk w g t cur) (hr : Rd w (some ⟨sg, so, none⟩) ys) (hl : ys.length = m) (hfit : k + m ≤ cur.length) (B : Nat) (w0 : World) (hb : Below B w0 w) (hBg : B ≤ g)
    (h : ∀ w', Bk w' g t (cur.take k ++ (ys ++ cur.drop (k + m))) → Below B w0 w' → (∀ j, j ≠ g → w'.heap[j]? = w.heap[j]?) → w'.heap.size = w.heap.size → wpList P ops Q rest (a.put o.dst (goInt m)) w') :
    wpList P ops Q (o :: rest) a w := by
  refine wpList_plain hgd fun K hK => ?_
  subst hoff
  have hrun := run_copy5 (P := P) w dT sT o.type elem g (k * 5) m dCap ⟨sg, so, none⟩ m sCap m _ t (csL ys) hu hsz hg (Nat.min_self m).symm (by rw [csL_len, hl]) (csL_at hr) (by rw [csL_len, List.size_toArray, csL_len]; omega) (csL_one ys)
  have hbk : Bk (w.setRow g (((csL cur).toArray.toList.take (k * 5) ++ csL ys ++ (csL cur).toArray.toList.drop (k * 5 + (csL ys).length)).toArray)) g t (cur.take k ++ (ys ++ cur.drop (k + m))) := by
    unfold Bk
    rw [setRow_heap w g _ _ t _ hg, csL_app, csL_app, csL_take, csL_drop, csL_len, hl, ← Nat.add_mul, List.append_assoc]
  have hK' := hK _ _ (h _ hbk (below_setRow hb hBg _) (fun j hj => setRow_other w g j _ hj) (by simp [World.setRow]))
  unfold Oper.wp
  simp only [execOp, ho, resolve, invoke, builtin, hd, hs, List.map_toArray, List.map_cons, List.map_nil, Sem.run_bind, Sem.run_pure, Result.andThen_ok, hrun]
  exact hK'
/-- read below a block number; owned from a block number on -/
def RdB (W : World) (B : Nat) (A : Option Addr) (xs : List D5) : Prop := ∀ k x, xs[k]? = some x → ∃ g o, A = some ⟨g, o, none⟩ ∧ g < B ∧ Cx W g (o + k * 5) x
theorem Rd.b {W : World} {A : Option Addr} {xs : List D5} (h : Rd W A xs) {B : Nat} (hB : W.heap.size ≤ B) : RdB W B A xs := fun k x hk => by
  obtain ⟨g, o, e, hc⟩ := h k x hk
  exact ⟨g, o, e, Nat.lt_of_lt_of_le hc.lt hB, hc⟩
theorem RdB.rd {W : World} {B : Nat} {A : Option Addr} {xs : List D5} (h : RdB W B A xs) : Rd W A xs := fun k x hk => by
  obtain ⟨g, o, e, _, hc⟩ := h k x hk
  exact ⟨g, o, e, hc⟩
theorem RdB.up {W : World} {B B' : Nat} {A : Option Addr} {xs : List D5} (h : RdB W B A xs) (hB : B ≤ B') : RdB W B' A xs := fun k x hk => by
  obtain ⟨g, o, e, hg, hc⟩ := h k x hk
  exact ⟨g, o, e, by omega, hc⟩
theorem RdB.keep {W W' : World} {B : Nat} {A : Option Addr} {xs : List D5} (h : RdB W B A xs) (hk : ∀ g, g < B → g < W.heap.size → W'.heap[g]? = W.heap[g]?) : RdB W' B A xs := fun k x hx => by
  obtain ⟨g, o, e, hg, hc⟩ := h k x hx
  exact ⟨g, o, e, hg, hc.at_ (hk g hg hc.lt)⟩
theorem RdB.mono {W W' : World} {B : Nat} {A : Option Addr} {xs : List D5} (h : RdB W B A xs) (hb : Below W.heap.size W W') : RdB W' B A xs := h.keep fun g _ hg => hb.block g hg
theorem RdB.grown {W W' : World} {B : Nat} {A : Option Addr} {xs : List D5} {row : Option Nat} (h : RdB W B A xs) (hg : W.grownBy W' row) (hr : ∀ r, row = some r → B ≤ r) : RdB W' B A xs := h.keep fun g h1 h2 => hg.block g h2 (fun e => by have := hr g e.symm; omega)
def Ow (W : World) (B : Nat) (t : TypeId) (A : Option Addr) (xs : List D5) : Prop := (xs = [] ∧ A = none) ∨ ∃ g, A = some ⟨g, 0, none⟩ ∧ B ≤ g ∧ Bk W g t xs
theorem Ow.rd {W : World} {B : Nat} {t : TypeId} {A : Option Addr} {xs : List D5} (h : Ow W B t A xs) : Rd W A xs := by
  rcases h with ⟨rfl, _⟩ | ⟨g, rfl, _, h⟩
  · exact Rd.nil _ _
  · exact h.rd
theorem Ow.mono {W W' : World} {B : Nat} {t : TypeId} {A : Option Addr} {xs : List D5} (h : Ow W B t A xs) (hb : Below W.heap.size W W') : Ow W' B t A xs := by
  rcases h with h | ⟨g, rfl, h1, h2⟩
  · exact Or.inl h
  · exact Or.inr ⟨g, rfl, h1, h2.mono hb⟩
theorem Ow.grown {W W' : World} {B : Nat} {t : TypeId} {A : Option Addr} {xs : List D5} {row : Option Nat} (h : Ow W B t A xs) (hg : W.grownBy W' row) (hr : ∀ r, row = some r → r < B) : Ow W' B t A xs := by
  rcases h with h | ⟨g, rfl, h1, h2⟩
  · exact Or.inl h
  · exact Or.inr ⟨g, rfl, h1, h2.at_ (hg.block g h2.lt (fun e => by have := hr g e.symm; omega))⟩
theorem Ow.low {W : World} {B : Nat} {t : TypeId} {A : Option Addr} {xs : List D5} (h : Ow W B t A xs) : ∀ a, A = some a → B ≤ a.block := by
  intro a ha
  rcases h with ⟨_, rfl⟩ | ⟨g, rfl, h1, _⟩
  · cases ha
  · simp only [Option.some.injEq] at ha; subst ha; exact h1
theorem Bk.ow {W : World} {g B : Nat} {t : TypeId} {xs : List D5} (h : Bk W g t xs) (hB : B ≤ g) : Ow W B t (some ⟨g, 0, none⟩) xs := Or.inr ⟨g, rfl, hB, h⟩
/-- the block of a slice's address -/
def blk (A : Option Addr) : Option Nat := A.map (·.block)
theorem Ow.row {W : World} {B : Nat} {t : TypeId} {A : Option Addr} {xs : List D5} (h : Ow W B t A xs) : ∀ r, blk A = some r → B ≤ r ∧ r < W.heap.size := by
  intro r hr
  rcases h with ⟨_, rfl⟩ | ⟨g, rfl, h1, h2⟩
  · cases hr
  · simp only [blk, Option.map_some, Option.some.injEq] at hr
    subst hr
    exact ⟨h1, h2.lt⟩
theorem grown_trans {a b c : World} {row : Option Nat} (h : a.grownBy b row) (k : b.grownBy c row) : a.grownBy c row :=
  ⟨k.os.trans h.os, k.tape.trans h.tape, k.output.trans h.output, Nat.le_trans h.size k.size, fun i hi hr => (k.block i (Nat.lt_of_lt_of_le hi h.size) hr).trans (h.block i hi hr)⟩
theorem grown_below {a b : World} {row : Option Nat} (h : Below a.heap.size a b) : a.grownBy b row := ⟨h.os, h.tape, h.output, h.size, fun k hk _ => h.block k hk⟩
theorem grown_set5 {a b : World} {g o : Nat} {x : D5} (h : a.grownBy b (some g)) : a.grownBy (set5 b g o x) (some g) :=
  have hb := set5_below (x := x) (o := o) (Below.refl g b) (Nat.le_refl g)
  grown_trans h ⟨hb.os, hb.tape, hb.output, hb.size, fun k _ hk => set5_far (fun e => hk (by rw [e]))⟩
end Go.Proofs.Ytgcligmpdlffoaa
namespace Go.Proofs.Ytgcligmpdlffoaa
open Go.RowKit RM
set_option linter.unusedVariables false
set_option linter.unusedSimpArgs false
def tab (n : Nat) (f : Nat → D5) : List D5 := (List.range n).map f
theorem tab_len (n : Nat) (f : Nat → D5) : (tab n f).length = n := by simp [tab]
theorem tab_succ (n : Nat) (f : Nat → D5) : tab (n + 1) f = tab n f ++ [f n] := by simp [tab, List.range_succ]
theorem tab_get {n : Nat} {f : Nat → D5} {k : Nat} (h : k < n) : (tab n f)[k]? = some (f k) := by simp [tab, h]
theorem tab_congr {n : Nat} {f g : Nat → D5} (h : ∀ q, q < n → f q = g q) : tab n f = tab n g := by
  unfold tab
  exact List.map_congr_left (fun q hq => h q (List.mem_range.1 hq))
theorem tab_set {n : Nat} {f : Nat → D5} {k : Nat} {v : D5} (h : k < n) : (tab n f).set k v = tab n (fun q => if q = k then v else f q) := by
  apply List.ext_getElem?
  intro q
  by_cases hq : q < n
  · rw [List.getElem?_set, tab_get hq, tab_len]
    by_cases hk : k = q
    · subst hk; rw [tab_get h]; simp [h]
    · rw [if_neg hk, tab_get hq, if_neg (fun e => hk e.symm)]
  · rw [List.getElem?_eq_none (by rw [List.length_set, tab_len]; omega), List.getElem?_eq_none (by rw [tab_len]; omega)]
theorem tab_repl (n : Nat) : List.replicate n z5 = tab n (fun _ => z5) := by
  unfold tab
  rw [List.map_const']
  simp
theorem list_tab (xs : List D5) : xs = tab xs.length (fun q => xs.getD q z5) := by
  apply List.ext_getElem?
  intro q
  by_cases hq : q < xs.length
  · rw [tab_get hq, List.getD_eq_getElem?_getD, List.getElem?_eq_getElem hq]; rfl
  · rw [List.getElem?_eq_none (by omega), List.getElem?_eq_none (by rw [tab_len]; omega)]
theorem getD_of {xs : List D5} {q : Nat} {x : D5} (h : xs[q]? = some x) : xs.getD q z5 = x := by rw [List.getD_eq_getElem?_getD, h]; rfl
theorem get_of {xs : List D5} {q : Nat} (h : q < xs.length) : xs[q]? = some (xs.getD q z5) := by rw [List.getD_eq_getElem?_getD, List.getElem?_eq_getElem h]; rfl
theorem Rd.far {W : World} {A : Option Addr} {xs : List D5} (h : Rd W A xs) {p : Addr} (hp : ∀ a, A = some a → a.block ≠ p.block) (u : Value) : Rd (W.setCell p u) A xs := h.at_ fun a ha => Below.heap_setCell _ _ _ _ (hp a ha)
theorem Bk.made' {W : World} {t : TypeId} {n b : Nat} (hb : b = W.heap.size) : Bk (W.alloc (.cells (csL (List.replicate n z5)).toArray t)) b t (List.replicate n z5) := by subst hb; exact Bk.made W t n
/-- a slice value that owns these numbers -/
def Own5 (W : World) (base : Nat) (t : TypeId) (v : Value) (xs : List D5) : Prop := W.ownsRow base t 5 v xs.length (csL xs)
theorem Own5.nil (W : World) (base : Nat) (t : TypeId) : Own5 W base t (.slice none 0 0) [] := World.ownsRow_nil W base t 5
theorem Own5.form {W : World} {base : Nat} {t : TypeId} {v : Value} {xs : List D5} (h : Own5 W base t v xs) : ∃ A cp, v = .slice A xs.length cp ∧ Rd W A xs ∧ (∀ a, A = some a → base ≤ a.block ∧ a.block < W.heap.size) := by
  have hlt := World.ownsRow.lt h
  rcases h.2 with ⟨hv, h0⟩ | ⟨g, cap, cur, hv, hb, hg, hnc, hcm, hcs, htake⟩
  · have hx : xs = [] := List.eq_nil_of_length_eq_zero h0
    subst hx
    exact ⟨none, 0, hv, Rd.nil _ _, fun a ha => by cases ha⟩
  · refine ⟨some ⟨g, 0, none⟩, cap, hv, ?_, fun a ha => by simp only [Option.some.injEq] at ha; subst ha; exact hlt g (by rw [hv]; rfl)⟩
    have hc := World.ownsRow.cells h (g := g) (by rw [hv]; rfl)
    intro k x hk
    obtain ⟨h0, h1, h2, h3, h4⟩ := csL_get hk
    refine ⟨g, 0, rfl, ?_⟩
    have e := fun j => addr_add g 0 j
    exact ⟨by have := hc _ _ h0; rw [e] at this; exact this, by have := hc _ _ h1; rw [e] at this; exact this, by have := hc _ _ h2; rw [e] at this; exact this, by have := hc _ _ h3; rw [e] at this; exact this, by have := hc _ _ h4; rw [e] at this; exact this⟩
theorem Own5.kept {W W' : World} {base : Nat} {t : TypeId} {v : Value} {xs : List D5} {row : Option Nat} (h : Own5 W base t v xs) (hg : W.grownBy W' row) (hne : v.ownBlock = none ∨ v.ownBlock ≠ row) : Own5 W' base t v xs := World.ownsRow.kept h hg hne
theorem Own5.mono {W W' : World} {base : Nat} {t : TypeId} {v : Value} {xs : List D5} (h : Own5 W base t v xs) (hb : Below W.heap.size W W') : Own5 W' base t v xs :=
  h.kept (row := none) (grown_below hb) (by cases v.ownBlock <;> simp)
theorem Own5.far {W : World} {base : Nat} {t : TypeId} {v : Value} {xs : List D5} (h : Own5 W base t v xs) {p : Addr} (hp : p.block < base) (u : Value) : Own5 (W.setCell p u) base t v xs := ownsRow_setCell_below h hp u
theorem Own5.drew {W : World} {base : Nat} {t : TypeId} {v : Value} {xs : List D5} (h : Own5 W base t v xs) : Own5 W.drew base t v xs := h
theorem Own5.snoc {W' : World} {base : Nat} {t : TypeId} {v' : Value} {xs : List D5} {n : Nat} {x : D5} (hn : xs.length = n) (h : W'.ownsRow base t 5 v' (n + 1) (csL xs ++ x.cs)) : Own5 W' base t v' (xs ++ [x]) := by
  unfold Own5
  rw [csL_app, List.length_append, hn]
  have : csL [x] = x.cs := by simp [csL]
  rw [this]
  exact h
end Go.Proofs.Ytgcligmpdlffoaa
namespace Go.Proofs.Ytgcligmpdlffoaa
open Go.RowKit RM
set_option linter.unusedVariables false
set_option linter.unusedSimpArgs false
attribute [local irreducible] World.setCell

theorem infoD : (Try.prog.info? 37).map (fun i => (i.zero, i.size, i.bytes)) = some (some (.agg #[.int .i64 0, .int .i64 0, .int .i64 0, .int .i64 0, .int .i64 0]), 5, 40) := by kernel_rfl
theorem mkD (n : Nat) (hn : n ≤ 1048576) (w : World) : (Instr.makeSlice 53 (.int .i64 (n : Int)) (.int .i64 (n : Int))).run Try.prog w = .ok (.slice (some ⟨w.heap.size, 0, none⟩) n n) (w.alloc (.cells (csL (List.replicate n z5)).toArray 37)) := by
  obtain ⟨i0, hi, hz0, hz1, hz2⟩ := info_parts infoD
  have := run_make (P := Try.prog) w 53 37 i0 _ Try.underlying53 hi hz0 .i64 .i64 n n (by omega) (Int.le_refl _) (by rw [hz2]; omega) (by omega)
  rw [this, hz1]
  simp only [Int.toNat_natCast, Value.cells, madeA]

end Go.Proofs.Ytgcligmpdlffoaa
