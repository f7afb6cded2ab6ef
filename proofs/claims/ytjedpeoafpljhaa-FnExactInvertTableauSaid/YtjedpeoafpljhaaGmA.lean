/- The matrices of gates as numbers: what the program and what the model makes of a cell is one. Nothing of Go. -/
import Derived.Test.YtjedpeoafpljhaaMath
namespace Go.Proofs.Ytjedpeoafpljhaa.GM
/-- the number in which qubit q alone is 1 -/
def msk (n q : Nat) : Nat := 2 ^ (n - 1 - q)
def bitI (n k q : Nat) : Nat := bif (k &&& msk n q).beq 0 then 0 else 1
def bitS (n k q : Nat) : Nat := k / msk n q % 2
/-- the program: what a gate of one term makes of a basis state: its number and the power of w (modulo 8) -/
def act (n kind A B c : Nat) : Nat × Nat :=
  match kind with
  | 2 => (c ^^^ msk n A, 0)
  | 3 => (c ^^^ msk n A, 4 * bitI n c A + 2)
  | 4 => (c, 4 * bitI n c A)
  | 5 => (c, 2 * bitI n c A)
  | 6 => (c, (8 - 2 * bitI n c A) % 8)
  | 7 => (c, bitI n c A)
  | 8 => (c, (8 - bitI n c A) % 8)
  | 9 => (bif (bitI n c A).beq 0 then c else c ^^^ msk n B, 0)
  | 10 => (c, 4 * bitI n c A * bitI n c B)
  | 11 => (bif (bitI n c A).beq (bitI n c B) then c else c ^^^ msk n A ^^^ msk n B, 0)
  | _ => (c, 1)
/-- cells by code: 0: zero; 1 + k + 8 e: the k-th power of w by the e-th power of the square root of 2 -/
def gI (n kind A B r c : Nat) : Nat :=
  match kind with
  | 1 => bif r.beq c then 9 + 4 * bitI n c A else bif r.beq (c ^^^ msk n A) then 9 else 0
  | _ => bif r.beq (act n kind A B c).1 then 1 + (act n kind A B c).2 % 8 else 0
def one (kind : Nat) : Nat → Nat :=
  match kind with
  | 1 => fun i => bif i.beq 3 then 13 else 9
  | 2 => fun i => bif i.beq 0 then 0 else bif i.beq 3 then 0 else 1
  | 3 => fun i => bif i.beq 1 then 7 else bif i.beq 2 then 3 else 0
  | k => fun i => bif i.beq 0 then 1 else bif i.beq 3 then (match k with | 4 => 5 | 5 => 3 | 6 => 7 | 7 => 2 | _ => 8) else 0
/-- the model -/
def gS (n kind A B r c : Nat) : Nat :=
  match kind with
  | 12 => bif r.beq c then 2 else 0
  | 9 => bif r.beq (bif (bitS n c A).beq 1 then c ^^^ msk n B else c) then 1 else 0
  | 10 => bif r.beq c then (bif (bitS n c A).beq 1 && (bitS n c B).beq 1 then 5 else 1) else 0
  | 11 => bif r.beq (bif (bitS n c A).beq (bitS n c B) then c else c ^^^ msk n A ^^^ msk n B) then 1 else 0
  | k => bif ((r ^^^ c) - ((r ^^^ c) &&& msk n A)).beq 0 then one k (2 * bitS n r A + bitS n c A) else 0
def allN : Nat → (Nat → Bool) → Bool
  | 0, _ => true
  | n + 1, f => f n && allN n f
theorem allN_get {n : Nat} {f : Nat → Bool} (h : allN n f = true) {k : Nat} (hk : k < n) : f k = true := by
  induction n with
  | zero => omega
  | succ n ih =>
    simp only [allN, Bool.and_eq_true] at h
    by_cases e : k = n
    · subst e; exact h.1
    · exact ih h.2 (by omega)
def chk (n kind A B : Nat) : Bool := allN (2 ^ n) fun r => allN (2 ^ n) fun c => (gI n kind A B r c).beq (gS n kind A B r c)
def chk1 (n : Nat) : Bool := allN n fun A => allN 8 fun k => chk n (k + 1) A 0
def chk2 (n : Nat) : Bool := allN n fun A => allN n fun B => A.beq B || allN 3 fun k => chk n (k + 9) A B
set_option maxRecDepth 1000000 in
theorem c11 : chk1 1 = true := by decide +kernel
set_option maxRecDepth 1000000 in
theorem c12 : chk1 2 = true := by decide +kernel
set_option maxRecDepth 1000000 in
theorem c13 : chk1 3 = true := by decide +kernel
set_option maxRecDepth 1000000 in
theorem c14 : chk1 4 = true := by decide +kernel
set_option maxRecDepth 1000000 in
theorem c22 : chk2 2 = true := by decide +kernel
set_option maxRecDepth 1000000 in
theorem c23 : chk2 3 = true := by decide +kernel
set_option maxRecDepth 1000000 in
theorem c24 : chk2 4 = true := by decide +kernel
set_option maxRecDepth 1000000 in
theorem c15 : chk1 5 = true := by decide +kernel
set_option maxRecDepth 1000000 in
theorem c25 : chk2 5 = true := by decide +kernel
set_option maxRecDepth 1000000 in
theorem cw : (allN 5 fun n => chk (n + 1) 12 0 0) = true := by decide +kernel
/-- a valid gate, by its three numbers -/
def okG (n kind A B : Nat) : Prop := 1 ≤ n ∧ n ≤ 5 ∧ ((1 ≤ kind ∧ kind ≤ 8 ∧ A < n ∧ B = 0) ∨ (9 ≤ kind ∧ kind ≤ 11 ∧ A < n ∧ B < n ∧ A ≠ B) ∨ (kind = 12 ∧ A = 0 ∧ B = 0))
theorem beqEq {a b : Nat} (h : a.beq b = true) : a = b := Nat.eq_of_beq_eq_true h
theorem chk1_n {n : Nat} (h1 : 1 ≤ n) (h2 : n ≤ 5) : chk1 n = true := by
  have : n = 1 ∨ n = 2 ∨ n = 3 ∨ n = 4 ∨ n = 5 := by omega
  rcases this with rfl | rfl | rfl | rfl | rfl
  · exact c11
  · exact c12
  · exact c13
  · exact c14
  · exact c15
theorem chk2_n {n : Nat} (h1 : 2 ≤ n) (h2 : n ≤ 5) : chk2 n = true := by
  have : n = 2 ∨ n = 3 ∨ n = 4 ∨ n = 5 := by omega
  rcases this with rfl | rfl | rfl | rfl
  · exact c22
  · exact c23
  · exact c24
  · exact c25
theorem chk_ok {n kind A B : Nat} (h : okG n kind A B) : chk n kind A B = true := by
  obtain ⟨h1, h2, h3⟩ := h
  rcases h3 with ⟨k1, k2, k3, rfl⟩ | ⟨k1, k2, k3, k4, k5⟩ | ⟨rfl, rfl, rfl⟩
  · have := allN_get (allN_get (chk1_n h1 h2) k3) (k := kind - 1) (by omega)
    rwa [show kind - 1 + 1 = kind by omega] at this
  · have := allN_get (allN_get (chk2_n (by omega) h2) k3) k4
    rw [Bool.or_eq_true] at this
    rcases this with h | h
    · exact absurd (beqEq h) k5
    · have := allN_get h (k := kind - 9) (by omega)
      rwa [show kind - 9 + 9 = kind by omega] at this
  · have := allN_get cw (k := n - 1) (by omega)
    rwa [show n - 1 + 1 = n by omega] at this
theorem gI_gS {n kind A B r c : Nat} (h : okG n kind A B) (hr : r < 2 ^ n) (hc : c < 2 ^ n) : gI n kind A B r c = gS n kind A B r c :=
  beqEq (allN_get (allN_get (chk_ok h) hr) hc)
theorem msk_pos {n q : Nat} : 1 ≤ msk n q := Nat.one_le_two_pow
theorem msk_lt {n q : Nat} (h : q < n) : msk n q < 2 ^ n := Nat.pow_lt_pow_right (by decide) (by omega)
theorem flip_lt {n q c : Nat} (hc : c < 2 ^ n) (h : q < n) : c ^^^ msk n q < 2 ^ n := Nat.xor_lt_two_pow hc (msk_lt h)
theorem pow_le {n : Nat} (h : n ≤ 5) : 2 ^ n ≤ 32 := Nat.pow_le_pow_right (by decide) h
theorem pow_pos' {n : Nat} : 1 ≤ 2 ^ n := Nat.one_le_two_pow
theorem bitI_01 {n c q : Nat} : bitI n c q = 0 ∨ bitI n c q = 1 := by unfold bitI; cases (c &&& msk n q).beq 0 <;> simp
theorem bitI_iff {n c q : Nat} : bitI n c q = 0 ↔ c &&& msk n q = 0 := by
  unfold bitI
  cases h : (c &&& msk n q).beq 0
  · constructor
    · intro h2; simp at h2
    · intro h2; rw [h2] at h; simp at h
  · simp only [cond_true, true_iff]; exact beqEq h
end Go.Proofs.Ytjedpeoafpljhaa.GM
