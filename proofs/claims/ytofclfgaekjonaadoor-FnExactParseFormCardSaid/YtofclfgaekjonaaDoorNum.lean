/- Contract of the model's l1Num. -/
import Derived.Test.YtofclfgaekjonaaDoorFn2
import Derived.Lib.ItoaNum
import Derived.Deep.RegionHeld3
import Derived.Laws.IdiomStrings
import Derived.Laws.Concat
namespace Go.Proofs.YtofclfgaekjonaaDoor
open Go.RowKit RM
set_option linter.unusedVariables false
set_option linter.unusedSimpArgs false
attribute [local irreducible] World.setCell

theorem cv1 (w : World) (g : Nat) (y : Int) (h0 : 0 ≤ y) (h1 : y < 256) (hc : w.cell? ⟨g, 0, none⟩ = some (.int .u8 y)) :
    (convert 80 9 (.slice (some ⟨g, 0, none⟩) 1 1)).run Tryd.prog w = .ok (.string ⟨#[UInt8.ofNat y.toNat]⟩) w := by
  have hy : ((UInt8.ofNat y.toNat).toNat : Int) = y := by simp; omega
  exact run_convert_bytes_back w 80 9 5 ⟨g, 0, none⟩ 1 [UInt8.ofNat y.toNat] Tryd.underlying80 Tryd.underlying5 Tryd.underlying9 (by
    intro j hj
    have : j = 0 := by simpa using hj
    subst this
    simp [Addr.add, hc]; omega)

theorem dig_len : ∀ (k n : Nat), n < 10 ^ (k + 1) → (Lib.decDigits n).length ≤ k + 1
  | 0, n, h => by rw [Lib.decDigits, dif_pos (by omega)]; simp
  | k + 1, n, h => by
    rw [Lib.decDigits]
    split
    · simp
    · have := dig_len k (n / 10) (by rw [Nat.pow_succ] at h; omega)
      simp; omega

theorem w64 {x : Int} (h : 0 ≤ x) (k : x ≤ 9223372036854775807) : IntKind.i64.wrap x = x := by
  simp [IntKind.wrap, IntKind.bits, IntKind.signed]; omega
theorem wu8 {x : Int} (h : 0 ≤ x) (k : x ≤ 255) : IntKind.u8.wrap x = x := by
  simp [IntKind.wrap, IntKind.bits, IntKind.signed]; omega

set_option maxRecDepth 100000 in
set_option maxHeartbeats 1000000 in
theorem num_small (n : Nat) (w : World) (h : n < 10) :
    Calls Tryd.prog 50 #[.int .i64 n] w fun e w' => e = .returned (.string ⟨(Lib.decDigits n).toArray⟩) ∧ Below w.heap.size w w' := by
  have hz : (⟨(Lib.decDigits n).toArray⟩ : ByteArray) = ⟨#[UInt8.ofNat (48 + (n : Int)).toNat]⟩ := by
    rw [Lib.decDigits, dif_pos h]
    have : (48 + (n : Int)).toNat = 48 + n := by omega
    rw [this]
  rw [hz]
  have kb := fun (w : World) => cv1 (w.alloc (.cells #[.int .u8 (48 + (n : Int))] 5)) w.heap.size (48 + (n : Int)) (by omega) (by omega) (by simp)
  generalize (⟨#[UInt8.ofNat (48 + (n : Int)).toNat]⟩ : ByteArray) = S at *
  clear hz
  go_enter Tryd.func50, Tryd.ntmps50
  go_wp2
  refine bodyPost_ret (v := .string S) (by simp [results, Tryd.results50, go_sem, *]) rfl ⟨rfl, ?_⟩
  repeat' (first | (with_reducible exact Below.refl _ _) | (with_reducible refine Below.alloc ?_ ?_ _) | (with_reducible refine Below.drew ?_) | (with_reducible refine Below.setCell ?_ ?_ _) | (with_reducible refine chain ?_ (by assumption) ?_) | omega | (simp; done) | (simp; omega))

set_option maxRecDepth 100000 in
set_option maxHeartbeats 1000000 in
theorem num_big (n : Nat) (w : World) (h : 10 ≤ n) (hn : n < 2 ^ 63) (ih : ∀ w, 
    Calls Tryd.prog 50 #[.int .i64 ((n / 10 : Nat) : Int)] w fun e w' => e = .returned (.string ⟨(Lib.decDigits (n / 10)).toArray⟩) ∧ Below w.heap.size w w') :
    Calls Tryd.prog 50 #[.int .i64 n] w fun e w' => e = .returned (.string ⟨(Lib.decDigits n).toArray⟩) ∧ Below w.heap.size w w' := by
  have hz : (⟨(Lib.decDigits n).toArray⟩ : ByteArray) = (⟨(Lib.decDigits (n / 10)).toArray⟩ : ByteArray) ++ ⟨#[UInt8.ofNat (48 + ((n % 10 : Nat) : Int)).toNat]⟩ := by
    rw [Lib.decDigits, dif_neg (by omega)]
    have : (48 + ((n % 10 : Nat) : Int)).toNat = 48 + n % 10 := by omega
    rw [this, ← ByteArray.mk_append_mk]
  have hl : (⟨(Lib.decDigits (n / 10)).toArray⟩ : ByteArray).size ≤ 19 := by
    have := dig_len 18 (n / 10) (by omega)
    simpa [ByteArray.size] using this
  have hq : ((n : Int)).tdiv 10 = ((n / 10 : Nat) : Int) := by rw [Int.tdiv_eq_ediv_of_nonneg (by omega)]; simp
  have hr : ((n : Int)).tmod 10 = ((n % 10 : Nat) : Int) := by rw [Int.tmod_eq_emod_of_nonneg (by omega)]; simp
  rw [hz]
  clear hz
  generalize (⟨(Lib.decDigits (n / 10)).toArray⟩ : ByteArray) = S0 at *
  generalize hQ : n / 10 = q at *
  generalize hR : n % 10 = r at *
  have hq1 : q < 922337203685477581 := by omega
  have hr1 : r < 10 := by omega
  have hw1 : IntKind.i64.wrap (q : Int) = q := w64 (by omega) (by omega)
  have hw2 : IntKind.i64.wrap (48 + (r : Int)) = 48 + r := w64 (by omega) (by omega)
  have hw3 : IntKind.u8.wrap (48 + (r : Int)) = 48 + r := wu8 (by omega) (by omega)
  have kb := fun (w : World) (g : Nat) (hc : w.cell? ⟨g, 0, none⟩ = some (.int .u8 (48 + (r : Int)))) => cv1 w g (48 + (r : Int)) (by omega) (by omega) hc
  have hs1 : (⟨#[UInt8.ofNat (48 + (r : Int)).toNat]⟩ : ByteArray).size = 1 := rfl
  generalize (⟨#[UInt8.ofNat (48 + (r : Int)).toNat]⟩ : ByteArray) = S at *
  have hsum : ¬ (S0.size + S.size > 9223372036854775807) := by omega
  have ka := fun (w : World) => run_string_add_sum (P := Tryd.prog) w S0 S (by omega)
  clear hQ hR
  go_enter Tryd.func50, Tryd.ntmps50
  go_wp2
  go_region_with (first | (go_at_call 50; (with_reducible refine (ih _).mono ?_); rintro e w1 ⟨rfl, hb1⟩; obtain ⟨hc1, hf1, _⟩ := bcell hb1; have hz1 := hb1.size; simp at hz1))
  all_goals go_wp2
  all_goals refine bodyPost_ret (v := .string (S0 ++ S)) (by simp [results, Tryd.results50, go_sem, *]) rfl ⟨rfl, ?_⟩
  all_goals repeat' (first | (with_reducible exact Below.refl _ _) | (with_reducible refine Below.alloc ?_ ?_ _) | (with_reducible refine Below.drew ?_) | (with_reducible refine Below.setCell ?_ ?_ _) | (with_reducible refine chain ?_ (by assumption) ?_) | omega | (simp; done) | (simp; omega))

theorem num : ∀ (n : Nat) (w : World), n < 2 ^ 63 →
    Calls Tryd.prog 50 #[.int .i64 n] w fun e w' => e = .returned (.string ⟨(Lib.decDigits n).toArray⟩) ∧ Below w.heap.size w w' := by
  intro n
  induction n using Nat.strongRecOn with
  | ind n ih =>
    intro w hn
    rcases Nat.lt_or_ge n 10 with h | h
    · exact num_small n w h
    · exact num_big n w h hn (fun w => ih (n / 10) (by omega) w (by omega))
theorem dd2 {q : Nat} (h : q ≤ 23) : (⟨(Lib.decDigits q).toArray⟩ : ByteArray) = dg2 q := by
  unfold dg2
  split
  · rename_i h1
    rw [Lib.decDigits, dif_pos h1]
  · rename_i h1
    rw [Lib.decDigits, dif_neg h1, Lib.decDigits, dif_pos (by omega)]
    rfl
theorem num2 {q : Nat} (h : q ≤ 23) (w : World) :
    Calls Tryd.prog 50 #[.int .i64 (q : Int)] w fun e w' => e = .returned (.string (dg2 q)) ∧ Below w.heap.size w w' := by
  rw [← dd2 h]
  exact num q w (by omega)
end Go.Proofs.YtofclfgaekjonaaDoor
