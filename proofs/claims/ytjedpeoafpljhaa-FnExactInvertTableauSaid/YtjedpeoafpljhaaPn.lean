/- Numbers of Pauli operators. -/
import Derived.Test.YtjedpeoafpljhaaPv
namespace Go.Proofs.Ytjedpeoafpljhaa.C4
open Go.RowKit
set_option linter.unusedVariables false
set_option linter.unusedSimpArgs false
attribute [local irreducible] World.setCell

def allB (n : Nat) (f : Nat → Bool) : Bool := (List.range n).all f
theorem allB_get {n : Nat} {f : Nat → Bool} (h : allB n f = true) {i : Nat} (hi : i < n) : f i = true := by
  unfold allB at h
  rw [List.all_eq_true] at h
  exact h i (List.mem_range.2 hi)
/-- the power of i in a product of two letters -/
def sg (a b : Nat) : Nat := ([0, 0, 0, 0, 0, 0, 3, 1, 0, 1, 0, 3, 0, 3, 1, 0] : List Nat).getD (a * 4 + b) 0
theorem sg_3 (a b : Nat) : sg a b ≤ 3 := by
  unfold sg
  by_cases h : a * 4 + b < 16
  · generalize a * 4 + b = k at *
    have := allB_get (n := 16) (f := fun k => decide (([0, 0, 0, 0, 0, 0, 3, 1, 0, 1, 0, 3, 0, 3, 1, 0] : List Nat).getD k 0 ≤ 3)) (by decide +kernel) h
    exact of_decide_eq_true this
  · unfold List.getD; rw [List.getElem?_eq_none (by simp; omega)]; decide
theorem sg_0 : sg 0 0 = 0 := rfl
/-- the letter at qubit q -/
def lt (x z q : Nat) : Nat := x / 2 ^ q % 2 + 2 * (z / 2 ^ q % 2)
theorem lt_4 (x z q : Nat) : lt x z q < 4 := by unfold lt; omega
theorem lt_0 {n x z q : Nat} (hx : x < 2 ^ n) (hz : z < 2 ^ n) (h : n ≤ q) : lt x z q = 0 := by
  have h1 : 2 ^ n ≤ 2 ^ q := Nat.pow_le_pow_right (by decide) h
  unfold lt
  rw [Nat.div_eq_of_lt (by omega), Nat.div_eq_of_lt (by omega)]
/-- the powers of i at the first k qubits -/
def sgs (xa za xb zb : Nat) : Nat → Nat
  | 0 => 0
  | k + 1 => sgs xa za xb zb k + sg (lt xa za k) (lt xb zb k)
theorem sgs_le (xa za xb zb k : Nat) : sgs xa za xb zb k ≤ 3 * k := by
  induction k with
  | zero => exact Nat.le_refl _
  | succ k ih => have := sg_3 (lt xa za k) (lt xb zb k); unfold sgs; omega
theorem sgs_n {n xa za xb zb : Nat} (h1 : xa < 2 ^ n) (h2 : za < 2 ^ n) (h3 : xb < 2 ^ n) (h4 : zb < 2 ^ n) (k : Nat) : n ≤ k → sgs xa za xb zb k = sgs xa za xb zb n := by
  induction k with
  | zero => intro h; obtain rfl : n = 0 := by omega
            rfl
  | succ k ih =>
    intro h
    by_cases e : n = k + 1
    · rw [e]
    · have h5 : n ≤ k := by omega
      show sgs xa za xb zb k + sg (lt xa za k) (lt xb zb k) = _
      rw [lt_0 h1 h2 h5, lt_0 h3 h4 h5, sg_0, Nat.add_zero, ih h5]
/-- a Pauli operator of natural numbers -/
abbrev pv (p x z : Nat) : PauliV := ⟨p, x, z⟩
abbrev pA (p x z : Nat) : Value := .agg #[.int .i64 (p : Int), .int .i64 (x : Int), .int .i64 (z : Int)]
/-- the phase of a product -/
def mp (pa xa za pb xb zb : Nat) : Nat := (pa + pb + sgs xa za xb zb 5) % 4
/-- the product -/
def mulV (pa xa za pb xb zb : Nat) : PauliV := pv (mp pa xa za pb xb zb) (xa ^^^ xb) (za ^^^ zb)
abbrev b2 : Nat → Nat → Int → Int → Bool := fun a b x y => decide (x = (a : Int) ∧ y = (b : Int))
set_option maxRecDepth 1000000 in
theorem bx_all : (allB 32 fun a => allB 32 fun b => decide (bits .xor .i64 (a : Int) (b : Int) = ((a ^^^ b : Nat) : Int) ∧ bits .and .i64 (a : Int) (b : Int) = ((a &&& b : Nat) : Int) ∧ a ^^^ b < 32 ∧ a &&& b < 32)) = true := by decide +kernel
theorem bx {a b : Nat} (ha : a < 32) (hb : b < 32) : bits .xor .i64 (a : Int) (b : Int) = ((a ^^^ b : Nat) : Int) := (of_decide_eq_true (allB_get (allB_get bx_all ha) hb)).1
theorem ba {a b : Nat} (ha : a < 32) (hb : b < 32) : bits .and .i64 (a : Int) (b : Int) = ((a &&& b : Nat) : Int) := (of_decide_eq_true (allB_get (allB_get bx_all ha) hb)).2.1
theorem bx_32 {a b : Nat} (ha : a < 32) (hb : b < 32) : a ^^^ b < 32 := (of_decide_eq_true (allB_get (allB_get bx_all ha) hb)).2.2.1
theorem ba_32 {a b : Nat} (ha : a < 32) (hb : b < 32) : a &&& b < 32 := (of_decide_eq_true (allB_get (allB_get bx_all ha) hb)).2.2.2
set_option maxRecDepth 1000000 in
theorem lt_all : (allB 32 fun x => allB 32 fun z => allB 6 fun q => decide (wrap64 (bits .and .i64 ((x : Int) / 2 ^ q) 1 + wrap64 (2 * bits .and .i64 ((z : Int) / 2 ^ q) 1)) = ((lt x z q : Nat) : Int))) = true := by decide +kernel
theorem lt_w {x z q : Nat} (hx : x < 32) (hz : z < 32) (hq : q < 6) : wrap64 (bits .and .i64 ((x : Int) / 2 ^ q) 1 + wrap64 (2 * bits .and .i64 ((z : Int) / 2 ^ q) 1)) = ((lt x z q : Nat) : Int) := of_decide_eq_true (allB_get (allB_get (allB_get lt_all hx) hz) hq)
set_option maxRecDepth 1000000 in
theorem lk_all : (allB 32 fun x => allB 32 fun z => allB 6 fun q => decide (IntKind.i64.wrap (bits .and .i64 ((x : Int) / 2 ^ q) 1 + IntKind.i64.wrap (2 * bits .and .i64 ((z : Int) / 2 ^ q) 1)) = ((lt x z q : Nat) : Int))) = true := by decide +kernel
theorem lt_k {x z q : Nat} (hx : x < 32) (hz : z < 32) (hq : q < 6) : IntKind.i64.wrap (bits .and .i64 ((x : Int) / 2 ^ q) 1 + IntKind.i64.wrap (2 * bits .and .i64 ((z : Int) / 2 ^ q) 1)) = ((lt x z q : Nat) : Int) := of_decide_eq_true (allB_get (allB_get (allB_get lk_all hx) hz) hq)
theorem pB_nat {n : Int} {x : PauliV} (h : pB n x = true) : ∃ k p a b : Nat, n = (k : Int) ∧ 1 ≤ k ∧ k ≤ 5 ∧ x = pv p a b ∧ p ≤ 3 ∧ a < 2 ^ k ∧ b < 2 ^ k := by
  unfold pB at h
  simp only [Bool.and_eq_true] at h
  obtain ⟨h1, h2, h3, h4⟩ := h
  rw [inB_iff] at h1 h2 h3 h4
  obtain ⟨k, hk⟩ := Int.eq_ofNat_of_zero_le (show 0 ≤ n by omega)
  obtain ⟨p, hp⟩ := Int.eq_ofNat_of_zero_le h2.1
  obtain ⟨a, ha⟩ := Int.eq_ofNat_of_zero_le h3.1
  obtain ⟨b, hb⟩ := Int.eq_ofNat_of_zero_le h4.1
  obtain ⟨f0, f1, f2⟩ := x
  dsimp only at hp ha hb h2 h3 h4
  subst hk hp ha hb
  have e : pw (Int.toNat (k : Int)) = 2 ^ k := rfl
  rw [e] at h3 h4
  exact ⟨k, p, a, b, rfl, by omega, by omega, rfl, by omega, by omega, by omega⟩
theorem pB_of {k p a b : Nat} (h1 : 1 ≤ k) (h5 : k ≤ 5) (hp : p ≤ 3) (ha : a < 2 ^ k) (hb : b < 2 ^ k) : pB (k : Int) (pv p a b) = true := by
  have e : pw (Int.toNat (k : Int)) = 2 ^ k := rfl
  unfold pB
  simp only [Bool.and_eq_true]
  rw [e]
  exact ⟨inB_t (by omega) (by omega), inB_t (by first | omega | (simp; done) | (simp; omega)) (by first | omega | (simp; done) | (simp; omega)), inB_t (by first | omega | (simp; done) | (simp; omega)) (by first | omega | (simp; done) | (simp; omega)), inB_t (by first | omega | (simp; done) | (simp; omega)) (by first | omega | (simp; done) | (simp; omega))⟩
theorem p32 {k a : Nat} (h5 : k ≤ 5) (ha : a < 2 ^ k) : a < 32 := Nat.lt_of_lt_of_le ha (pw_32 h5)
end Go.Proofs.Ytjedpeoafpljhaa.C4
