/- A gate's text: the model. -/
import Derived.Test.YtdbnjoeanoiifaaDoorFg
namespace Go.Proofs.YtdbnjoeanoiifaaDoor
open Go.RowKit
set_option linter.unusedVariables false
set_option linter.unusedSimpArgs false
attribute [local irreducible] World.setCell

/-- a gate's text, with its first q qubits -/
def fgT (k a b : Nat) : Nat → ByteArray
  | 0 => gnm k
  | 1 => gnm k ++ (⟨#[32]⟩ ++ dgt a)
  | _ => (gnm k ++ (⟨#[32]⟩ ++ dgt a)) ++ (⟨#[32]⟩ ++ dgt b)
/-- its j-th qubit -/
def fgQ (a b : Nat) : Nat → Nat
  | 0 => a
  | _ => b
theorem sp_size (q : Nat) : ((⟨#[32]⟩ : ByteArray) ++ dgt q).size = 2 := by rw [ByteArray.size_append]; rfl
theorem fgT_next {k a b j : Nat} (h : j < 2) : fgT k a b j ++ (⟨#[32]⟩ ++ dgt (fgQ a b j)) = fgT k a b (j + 1) := by
  rcases (by omega : j = 0 ∨ j = 1) with rfl | rfl <;> rfl
theorem fgT_size {k a b j : Nat} : (fgT k a b j).size ≤ 8 := by
  have h := gnm_size k
  unfold fgT
  split
  · omega
  · rw [ByteArray.size_append, sp_size]; omega
  · rw [ByteArray.size_append, ByteArray.size_append, sp_size, sp_size]; omega
theorem ka_sp {P : Program} (q : Nat) (w : World) : (Op.stringOp .add ⟨#[32]⟩ (dgt q)).run P w = .ok (.string (⟨#[32]⟩ ++ dgt q)) w := run_string_add_sum w _ _ (by rw [dgt_size]; decide)
theorem ka_tx {P : Program} {k a b j : Nat} (h : j < 2) (w : World) : (Op.stringOp .add (fgT k a b j) (⟨#[32]⟩ ++ dgt (fgQ a b j))).run P w = .ok (.string (fgT k a b (j + 1))) w := by
  rw [← fgT_next h]
  exact run_string_add_sum w _ _ (by have := fgT_size (k := k) (a := a) (b := b) (j := j); rw [sp_size]; omega)

theorem lnz {k a b : Nat} (h1 : 1 ≤ k) (h2 : k ≤ 12) (w : World) :
    Calls Tryd.prog 78 #[.int .i64 (k : Int)] w fun ee w' => ee = .returned (.string (fgT k a b 0)) ∧ Below w.heap.size w w' := lnm h1 h2 w

set_option maxRecDepth 100000 in
set_option maxHeartbeats 4000000 in
theorem lt_0 {k a b : Nat} (h1 : 1 ≤ k) (h2 : k ≤ 12) (ha : a ≤ 4) (hb : b ≤ 4) (hk : (k : Int) = 12) (w : World) :
    Calls Tryd.prog 54 #[.agg #[.int .i64 (k : Int), .int .i64 (a : Int), .int .i64 (b : Int)]] w fun ee w' => ee = .returned (.string (fgT k a b 0)) ∧ Below w.heap.size w w' := by
  have HI : Hid (inB (k : Int) 9 11 = false) := inB_f (by omega)
  have hk2 : ((k : Int) != 12) = false := by simp; omega
  clear hk
  go_enter Tryd.func54, Tryd.ntmps54
  go_wp2_with (first | (go_at_call 78; ((with_reducible refine (lnz (a := a) (b := b) h1 h2 _).mono ?_); rintro ee w1 ⟨rfl, hb1⟩; obtain ⟨hc1, hf1, _⟩ := bcl hb1; have hz1 := hb1.size; (try simp only [World.size_alloc] at hz1); (try have hx1 : w.heap.size < w1.heap.size := (by omega)))) | (go_at_call 68; ((with_reducible refine (lin HI.out _).mono ?_); rintro ee w9 ⟨rfl, rfl⟩)))
  refine bodyPost_ret (v := .string (fgT k a b 0)) (by first | (simp [results, Tryd.results54, go_sem, *]; done) | (simp only [results, Tryd.results54]; go_simp; done)) rfl ⟨rfl, ?_⟩
  (repeat' (first | (with_reducible exact Below.refl _ _) | (with_reducible assumption) | (with_reducible refine Below.alloc ?_ ?_ _) | (with_reducible refine Below.drew ?_) | (with_reducible refine bdN ?_ _) | (with_reducible refine Below.setCell ?_ ?_ _) | (with_reducible refine chn ?_ (by assumption) ?_) | omega | (simp; done) | (simp; omega)))

set_option maxRecDepth 100000 in
set_option maxHeartbeats 4000000 in
theorem lt_1 {k a b : Nat} (h1 : 1 ≤ k) (h2 : k ≤ 12) (ha : a ≤ 4) (hb : b ≤ 4) (hk : k ≤ 8) (w : World) :
    Calls Tryd.prog 54 #[.agg #[.int .i64 (k : Int), .int .i64 (a : Int), .int .i64 (b : Int)]] w fun ee w' => ee = .returned (.string (fgT k a b 1)) ∧ Below w.heap.size w w' := by
  have HI : Hid (inB (k : Int) 9 11 = false) := inB_f (by omega)
  have hk2 : ((k : Int) != 12) = true := by simp; omega
  have k1 := fun w => ka_sp (P := Tryd.prog) a w
  have k2 := fun w => ka_tx (P := Tryd.prog) (k := k) (a := a) (b := b) (j := 0) (by omega) w
  simp only [fgQ, Nat.zero_add] at k2
  go_enter Tryd.func54, Tryd.ntmps54
  go_wp2_with (first | (go_at_call 78; ((with_reducible refine (lnz (a := a) (b := b) h1 h2 _).mono ?_); rintro ee w1 ⟨rfl, hb1⟩; obtain ⟨hc1, hf1, _⟩ := bcl hb1; have hz1 := hb1.size; (try simp only [World.size_alloc] at hz1); (try have hx1 : w.heap.size < w1.heap.size := (by omega)))) | (go_at_call_of 52 (Value.int IntKind.i64 (a : Int)); ((with_reducible refine (nums (q := a) (by omega) _).mono ?_); rintro ee w2 ⟨rfl, hb2⟩; obtain ⟨hc2, hf2, _⟩ := bcl hb2; have hz2 := hb2.size; (try simp only [World.size_alloc] at hz2); (try have hx2 : w.heap.size < w2.heap.size := (by omega)))) | (go_at_call 68; ((with_reducible refine (lin HI.out _).mono ?_); rintro ee w9 ⟨rfl, rfl⟩)))
  refine bodyPost_ret (v := .string (fgT k a b 1)) (by first | (simp [results, Tryd.results54, go_sem, *]; done) | (simp only [results, Tryd.results54]; go_simp; done)) rfl ⟨rfl, ?_⟩
  (repeat' (first | (with_reducible exact Below.refl _ _) | (with_reducible assumption) | (with_reducible refine Below.alloc ?_ ?_ _) | (with_reducible refine Below.drew ?_) | (with_reducible refine bdN ?_ _) | (with_reducible refine Below.setCell ?_ ?_ _) | (with_reducible refine chn ?_ (by assumption) ?_) | omega | (simp; done) | (simp; omega)))

set_option maxRecDepth 100000 in
set_option maxHeartbeats 4000000 in
theorem lt_2 {k a b : Nat} (h1 : 1 ≤ k) (h2 : k ≤ 12) (ha : a ≤ 4) (hb : b ≤ 4) (hk : 9 ≤ k ∧ k ≤ 11) (w : World) :
    Calls Tryd.prog 54 #[.agg #[.int .i64 (k : Int), .int .i64 (a : Int), .int .i64 (b : Int)]] w fun ee w' => ee = .returned (.string (fgT k a b 2)) ∧ Below w.heap.size w w' := by
  have HI : Hid (inB (k : Int) 9 11 = true) := inB_t (by omega) (by omega)
  have hk2 : ((k : Int) != 12) = true := by simp; omega
  have k1 := fun w => ka_sp (P := Tryd.prog) a w
  have k2 := fun w => ka_tx (P := Tryd.prog) (k := k) (a := a) (b := b) (j := 0) (by omega) w
  simp only [fgQ, Nat.zero_add] at k2
  have k3 := fun w => ka_sp (P := Tryd.prog) b w
  have k4 := fun w => ka_tx (P := Tryd.prog) (k := k) (a := a) (b := b) (j := 1) (by omega) w
  simp only [fgQ, Nat.reduceAdd] at k4
  go_enter Tryd.func54, Tryd.ntmps54
  go_wp2_with (first | (go_at_call 78; ((with_reducible refine (lnz (a := a) (b := b) h1 h2 _).mono ?_); rintro ee w1 ⟨rfl, hb1⟩; obtain ⟨hc1, hf1, _⟩ := bcl hb1; have hz1 := hb1.size; (try simp only [World.size_alloc] at hz1); (try have hx1 : w.heap.size < w1.heap.size := (by omega)))) | (go_at_call_of 52 (Value.int IntKind.i64 (a : Int)); ((with_reducible refine (nums (q := a) (by omega) _).mono ?_); rintro ee w2 ⟨rfl, hb2⟩; obtain ⟨hc2, hf2, _⟩ := bcl hb2; have hz2 := hb2.size; (try simp only [World.size_alloc] at hz2); (try have hx2 : w.heap.size < w2.heap.size := (by omega)))) | (go_at_call_of 52 (Value.int IntKind.i64 (b : Int)); ((with_reducible refine (nums (q := b) (by omega) _).mono ?_); rintro ee w3 ⟨rfl, hb3⟩; obtain ⟨hc3, hf3, _⟩ := bcl hb3; have hz3 := hb3.size; (try simp only [World.size_alloc] at hz3); (try have hx3 : w.heap.size < w3.heap.size := (by omega)))) | (go_at_call 68; ((with_reducible refine (lin HI.out _).mono ?_); rintro ee w9 ⟨rfl, rfl⟩)))
  refine bodyPost_ret (v := .string (fgT k a b 2)) (by first | (simp [results, Tryd.results54, go_sem, *]; done) | (simp only [results, Tryd.results54]; go_simp; done)) rfl ⟨rfl, ?_⟩
  (repeat' (first | (with_reducible exact Below.refl _ _) | (with_reducible assumption) | (with_reducible refine Below.alloc ?_ ?_ _) | (with_reducible refine Below.drew ?_) | (with_reducible refine bdN ?_ _) | (with_reducible refine Below.setCell ?_ ?_ _) | (with_reducible refine chn ?_ (by assumption) ?_) | omega | (simp; done) | (simp; omega)))

end Go.Proofs.YtdbnjoeanoiifaaDoor
