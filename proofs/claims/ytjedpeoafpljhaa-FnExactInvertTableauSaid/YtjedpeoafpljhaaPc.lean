/- Which Pauli operators anticommute. -/
import Derived.Test.YtjedpeoafpljhaaPn
namespace Go.Proofs.Ytjedpeoafpljhaa.C4
open Go.RowKit
set_option linter.unusedVariables false
set_option linter.unusedSimpArgs false
attribute [local irreducible] World.setCell

theorem fieldsOfE {P : Program} {t : TypeId} {fs : Array Field} (h : P.underlying t = some (.struct fs)) : P.fieldsOf t = fs := by unfold Program.fieldsOf; rw [h]
theorem fePauli : ∃ f0 f1 f2 : Field, (Try.prog.fieldsOf 43).toList = [f0, f1, f2] ∧ (f0.type = 3 ∧ f1.type = 3 ∧ f2.type = 3) ∧ (f0.offset = 0 ∧ f1.offset = 1 ∧ f2.offset = 2) ∧ (f0.name ≠ "_" ∧ f1.name ≠ "_" ∧ f2.name ≠ "_") :=
  ⟨_, _, _, congrArg Array.toList (fieldsOfE Try.underlying43), ⟨rfl, rfl, rfl⟩, ⟨rfl, rfl, rfl⟩, ⟨by decide, by decide, by decide⟩⟩
theorem paPauli (x0 x1 x2 : Int) (w : World) : (part 3 #[.int .i64 x0, .int .i64 x1, .int .i64 x2] 0).run Try.prog w = .ok (.int .i64 x0) w ∧ (part 3 #[.int .i64 x0, .int .i64 x1, .int .i64 x2] 1).run Try.prog w = .ok (.int .i64 x1) w ∧ (part 3 #[.int .i64 x0, .int .i64 x1, .int .i64 x2] 2).run Try.prog w = .ok (.int .i64 x2) w :=
  ⟨by kernel_rfl, by kernel_rfl, by kernel_rfl⟩
theorem uePauli : Try.prog.underlying 43 = some (.struct (Try.prog.fieldsOf 43)) := by kernel_rfl
theorem sePauli : Try.prog.stoodInHeld 43 = false := by kernel_rfl
theorem eePauli (k : Nat) (x0 x1 x2 y0 y1 y2 : Int) (w : World) : (Op.equalIn (k + 2) 43 (.agg #[.int .i64 x0, .int .i64 x1, .int .i64 x2]) (.agg #[.int .i64 y0, .int .i64 y1, .int .i64 y2])).run Try.prog w = .ok (x0 == y0 && (x1 == y1 && (x2 == y2))) w := by
  obtain ⟨f0, f1, f2, hf, ⟨t0, t1, t2⟩, ⟨o0, o1, o2⟩, ⟨n0, n1, n2⟩⟩ := fePauli
  rw [run_equalIn_struct w (k + 1) _ _ _ uePauli sePauli, hf]
  obtain ⟨u0, u1, u2⟩ := paPauli x0 x1 x2 w
  obtain ⟨v0, v1, v2⟩ := paPauli y0 y1 y2 w
  have e0 := fun w => run_equalIn_int w k 3 .i64 .i64 x0 y0 Try.underlying3
  have e1 := fun w => run_equalIn_int w k 3 .i64 .i64 x1 y1 Try.underlying3
  have e2 := fun w => run_equalIn_int w k 3 .i64 .i64 x2 y2 Try.underlying3
  cases h0 : (x0 == y0) <;> cases h1 : (x1 == y1) <;> cases h2 : (x2 == y2) <;> (rw [h0] at e0; rw [h1] at e1; rw [h2] at e2; simp [Op.eqFields, t0, o0, n0, u0, v0, e0, t1, o1, n1, u1, v1, e1, t2, o2, n2, u2, v2, e2])
theorem run_neqPauli (x0 x1 x2 y0 y1 y2 : Int) (v : Bool) (w : World) (h : (x0 == y0 && (x1 == y1 && (x2 == y2))) = v) : (binOp .neq 43 (.agg #[.int .i64 x0, .int .i64 x1, .int .i64 x2]) (.agg #[.int .i64 y0, .int .i64 y1, .int .i64 y2])).run Try.prog w = .ok (.bool (!v)) w := by
  subst h
  simp only [binOp]
  simp [Op.equal, Op.maxDepth, eePauli 9998 x0 x1 x2 y0 y1 y2 w]
theorem run_eqlPauli (x0 x1 x2 y0 y1 y2 : Int) (v : Bool) (w : World) (h : (x0 == y0 && (x1 == y1 && (x2 == y2))) = v) : (binOp .eql 43 (.agg #[.int .i64 x0, .int .i64 x1, .int .i64 x2]) (.agg #[.int .i64 y0, .int .i64 y1, .int .i64 y2])).run Try.prog w = .ok (.bool v) w := by
  subst h
  simp only [binOp]
  simp [Op.equal, Op.maxDepth, eePauli 9998 x0 x1 x2 y0 y1 y2 w]
theorem eqvPauli {x y : PauliV} : (x.f0 == y.f0 && (x.f1 == y.f1 && (x.f2 == y.f2))) = true ↔ x = y := by
  obtain ⟨a0, a1, a2⟩ := x
  obtain ⟨b0, b1, b2⟩ := y
  simp
theorem eqfPauli {x y : PauliV} (h : x ≠ y) : (x.f0 == y.f0 && (x.f1 == y.f1 && (x.f2 == y.f2))) = false := by
  cases hb : (x.f0 == y.f0 && (x.f1 == y.f1 && (x.f2 == y.f2)))
  · rfl
  · exact absurd (eqvPauli.1 hb) h
theorem neqPauli_s (x : PauliV) (w : World) : (binOp .neq 43 x.v x.v).run Try.prog w = .ok (.bool false) w := run_neqPauli _ _ _ _ _ _ true w (eqvPauli.2 rfl)
theorem neqPauli_d {x y : PauliV} (h : x ≠ y) (w : World) : (binOp .neq 43 x.v y.v).run Try.prog w = .ok (.bool true) w := run_neqPauli _ _ _ _ _ _ false w (eqfPauli h)
theorem eqlPauli_s (x : PauliV) (w : World) : (binOp .eql 43 x.v x.v).run Try.prog w = .ok (.bool true) w := run_eqlPauli _ _ _ _ _ _ true w (eqvPauli.2 rfl)
theorem eqlPauli_d {x y : PauliV} (h : x ≠ y) (w : World) : (binOp .eql 43 x.v y.v).run Try.prog w = .ok (.bool false) w := run_eqlPauli _ _ _ _ _ _ false w (eqfPauli h)
/-- the number of ones among five bits -/
def pc (y : Nat) : Nat := y / 2 ^ 0 % 2 + y / 2 ^ 1 % 2 + y / 2 ^ 2 % 2 + y / 2 ^ 3 % 2 + y / 2 ^ 4 % 2
def bt (y q : Nat) : Nat := y / 2 ^ q % 2
theorem bt_tb (y q : Nat) : bt y q = (y.testBit q).toNat := by
  unfold bt
  rw [Nat.testBit_eq_decide_div_mod_eq]
  have := Nat.mod_two_eq_zero_or_one (y / 2 ^ q)
  rcases this with h | h <;> rw [h] <;> rfl
theorem bt_x (a b q : Nat) : bt (a ^^^ b) q = ((a.testBit q) ^^ (b.testBit q)).toNat := by rw [bt_tb, Nat.testBit_xor]
/-- do two letters anticommute? -/
def an (l m : Nat) : Nat := if l ≠ 0 ∧ m ≠ 0 ∧ l ≠ m then 1 else 0
theorem an_bits (xa za xb zb q : Nat) : bt ((xa &&& zb) ^^^ (za &&& xb)) q = an (lt xa za q) (lt xb zb q) := by
  rw [bt_x, Nat.testBit_and, Nat.testBit_and]
  have e : ∀ x z, lt x z q = bt x q + 2 * bt z q := fun _ _ => rfl
  rw [e, e, bt_tb, bt_tb, bt_tb, bt_tb]
  cases xa.testBit q <;> cases za.testBit q <;> cases xb.testBit q <;> cases zb.testBit q <;> decide
def ac (xa za xb zb : Nat) : Nat → Nat
  | 0 => 0
  | k + 1 => ac xa za xb zb k + an (lt xa za k) (lt xb zb k)
theorem sg_an : (allB 4 fun a => allB 4 fun b => decide ((sg a b + 2 * an a b) % 4 = sg b a % 4)) = true := by decide +kernel
theorem sgs_ac (xa za xb zb k : Nat) : (sgs xa za xb zb k + 2 * ac xa za xb zb k) % 4 = sgs xb zb xa za k % 4 := by
  induction k with
  | zero => rfl
  | succ k ih =>
    have h := of_decide_eq_true (allB_get (allB_get sg_an (lt_4 xa za k)) (lt_4 xb zb k))
    unfold sgs ac
    omega
theorem pc_ac (xa za xb zb : Nat) : pc ((xa &&& zb) ^^^ (za &&& xb)) = ac xa za xb zb 5 := by
  have h := an_bits xa za xb zb
  have e : ∀ y, pc y = bt y 0 + bt y 1 + bt y 2 + bt y 3 + bt y 4 := fun _ => rfl
  rw [e, h, h, h, h, h]
  unfold ac ac ac ac ac ac
  omega
/-- do two Pauli operators anticommute? -/
def acB (xa za xb zb : Nat) : Bool := decide (pc ((xa &&& zb) ^^^ (za &&& xb)) % 2 = 1)
theorem ac_mp (pa xa za pb xb zb : Nat) : decide (mp pa xa za pb xb zb = mp pb xb zb pa xa za) = !acB xa za xb zb := by
  have h := sgs_ac xa za xb zb 5
  have h2 := pc_ac xa za xb zb
  unfold acB mp
  rw [h2]
  by_cases e : ac xa za xb zb 5 % 2 = 1
  · rw [decide_eq_true e, decide_eq_false (by omega)]; rfl
  · rw [decide_eq_false e, decide_eq_true (by omega)]; rfl
theorem pc_8 (y : Nat) : pc y < 8 := by unfold pc; omega
def oS1 (x : Int) : Int := IntKind.u64.wrap (bits .and .u64 (x / 2) 6148914691236517205 + bits .and .u64 x 6148914691236517205)
def oS2 (x : Int) : Int := IntKind.u64.wrap (bits .and .u64 (x / 4) 3689348814741910323 + bits .and .u64 x 3689348814741910323)
def oS3 (x : Int) : Int := bits .and .u64 (IntKind.u64.wrap (x / 16 + x)) 1085102592571150095
def oS4 (x : Int) : Int := IntKind.u64.wrap (x + x / 256)
def oS5 (x : Int) : Int := IntKind.u64.wrap (x + x / 65536)
def oS6 (x : Int) : Int := IntKind.u64.wrap (x + x / 4294967296)
def oS7 (x : Int) : Int := bits .and .i64 (wrap64 x) 127
set_option maxRecDepth 1000000 in
theorem oS_all : (allB 32 fun y => decide (oS7 (oS6 (oS5 (oS4 (oS3 (oS2 (oS1 (y : Int))))))) = ((pc y : Nat) : Int))) = true := by decide +kernel
set_option maxRecDepth 100000 in
set_option maxHeartbeats 8000000 in
theorem oc64 {y : Nat} (hy : y < 32) (w : World) :
    Calls Try.prog 201 #[.int .u64 (y : Int)] w fun ee w' => ee = .returned (.int .i64 ((pc y : Nat) : Int)) ∧ w = w' := by
  have H0 := of_decide_eq_true (allB_get oS_all hy)
  obtain ⟨a1, h1⟩ : ∃ a, oS1 (y : Int) = a := ⟨_, rfl⟩
  rw [h1] at H0
  have e1 : IntKind.u64.wrap (bits .and .u64 ((y : Int) / 2) 6148914691236517205 + bits .and .u64 (y : Int) 6148914691236517205) = a1 := h1
  obtain ⟨a2, h2⟩ : ∃ a, oS2 a1 = a := ⟨_, rfl⟩
  rw [h2] at H0
  have e2 : IntKind.u64.wrap (bits .and .u64 (a1 / 4) 3689348814741910323 + bits .and .u64 a1 3689348814741910323) = a2 := h2
  obtain ⟨a3, h3⟩ : ∃ a, oS3 a2 = a := ⟨_, rfl⟩
  rw [h3] at H0
  have e3 : bits .and .u64 (IntKind.u64.wrap (a2 / 16 + a2)) 1085102592571150095 = a3 := h3
  obtain ⟨a4, h4⟩ : ∃ a, oS4 a3 = a := ⟨_, rfl⟩
  rw [h4] at H0
  have e4 : IntKind.u64.wrap (a3 + a3 / 256) = a4 := h4
  obtain ⟨a5, h5⟩ : ∃ a, oS5 a4 = a := ⟨_, rfl⟩
  rw [h5] at H0
  have e5 : IntKind.u64.wrap (a4 + a4 / 65536) = a5 := h5
  obtain ⟨a6, h6⟩ : ∃ a, oS6 a5 = a := ⟨_, rfl⟩
  rw [h6] at H0
  have e6 : IntKind.u64.wrap (a5 + a5 / 4294967296) = a6 := h6
  obtain ⟨a7, h7⟩ : ∃ a, oS7 a6 = a := ⟨_, rfl⟩
  rw [h7] at H0
  have e7 : bits .and .i64 (wrap64 a6) 127 = a7 := h7
  clear h1 h2 h3 h4 h5 h6 h7
  have HH := lay H0
  clear H0
  go_enter Try.func201, Try.ntmps201
  go_wp2_with (fail)
  go_ret
  exact ⟨ret_int HH.out, rfl⟩

set_option maxRecDepth 100000 in
set_option maxHeartbeats 2000000 in
theorem oc {y : Nat} (hy : y < 32) (w : World) :
    Calls Try.prog 188 #[.int .u64 (y : Int)] w fun ee w' => ee = .returned (.int .i64 ((pc y : Nat) : Int)) ∧ w = w' := by
  go_enter Try.func188, Try.ntmps188
  go_wp2_with (fail)
  refine (oc64 hy _).mono ?_
  rintro ee w1 ⟨rfl, rfl⟩
  go_wp2_with (fail)
  go_ret
  exact ⟨rfl, rfl⟩

set_option maxRecDepth 100000 in
set_option maxHeartbeats 2000000 in
theorem acm {pa pb : Int} {xa za xb zb : Nat} {t : Bool} (h1 : xa < 32) (h2 : za < 32) (h3 : xb < 32) (h4 : zb < 32) (h : acB xa za xb zb = t) (w : World) :
    Calls Try.prog 148 #[.agg #[.int .i64 pa, .int .i64 (xa : Int), .int .i64 (za : Int)], .agg #[.int .i64 pb, .int .i64 (xb : Int), .int .i64 (zb : Int)]] w fun ee w' => ee = .returned (.bool t) ∧ Below w.heap.size w w' := by
  obtain ⟨u, hu⟩ : ∃ u, u = xa &&& zb := ⟨_, rfl⟩
  obtain ⟨v, hv⟩ : ∃ v, v = za &&& xb := ⟨_, rfl⟩
  obtain ⟨y, hy⟩ : ∃ y, y = u ^^^ v := ⟨_, rfl⟩
  have hu3 : u < 32 := by rw [hu]; exact ba_32 h1 h4
  have hv3 : v < 32 := by rw [hv]; exact ba_32 h2 h3
  have hy3 : y < 32 := by rw [hy]; exact bx_32 hu3 hv3
  have e1 : bits .and .i64 (xa : Int) (zb : Int) = (u : Int) := by rw [hu]; exact ba h1 h4
  have e2 : bits .and .i64 (za : Int) (xb : Int) = (v : Int) := by rw [hv]; exact ba h2 h3
  have e3 : bits .xor .i64 (u : Int) (v : Int) = (y : Int) := by rw [hy]; exact bx hu3 hv3
  have HT : Hid (decide (pc y % 2 = 1) = t) := by show _ = t; rw [← h, hy, hu, hv]; rfl
  clear h hu hv hy
  obtain ⟨c, hc⟩ : ∃ c, c = pc y := ⟨_, rfl⟩
  have hc8 : c < 8 := by rw [hc]; exact pc_8 y
  obtain ⟨m, hm⟩ : ∃ m, m = c % 2 := ⟨_, rfl⟩
  have e4 : ((c : Int)).tmod 2 = (m : Int) := by rw [Int.tmod_eq_emod_of_nonneg (by omega)]; omega
  have e5 : (c : Int) % 2 = (m : Int) := by omega
  have HM : Hid (((m : Int) == 1) = t) := by
    show ((m : Int) == 1) = t
    rw [← HT.out, ← hc, ← hm]
    by_cases e : m = 1
    · subst e; rfl
    · rw [decide_eq_false e]; simp; omega
  have HC := lay hc
  clear hm hc
  go_enter Try.func148, Try.ntmps148
  go_wp2_with (fail)
  refine (oc hy3 _).mono ?_
  rintro ee w1 ⟨rfl, rfl⟩
  rw [← HC.out]
  go_wp2_with (fail)
  go_ret
  refine ⟨ret_bool HM.out, ?_⟩
  (repeat' (first | (with_reducible exact Below.refl _ _) | (with_reducible assumption) | (with_reducible refine Below.alloc ?_ ?_ _) | (with_reducible refine Below.drew ?_) | (with_reducible refine bdN ?_ _) | (with_reducible refine Below.setCell ?_ ?_ _) | (with_reducible refine chn ?_ (by assumption) ?_) | omega | (simp; done) | (simp; omega)))

end Go.Proofs.Ytjedpeoafpljhaa.C4
