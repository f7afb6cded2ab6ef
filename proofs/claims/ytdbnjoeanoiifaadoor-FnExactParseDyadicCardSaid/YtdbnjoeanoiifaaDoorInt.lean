/- Contracts of the model's l1Int and l1Text. -/
import Derived.Test.YtdbnjoeanoiifaaDoorNum
import Derived.Test.YtdbnjoeanoiifaaDoorHeldB
namespace Go.Proofs.YtdbnjoeanoiifaaDoor
open Go.RowKit RM
set_option linter.unusedVariables false
set_option linter.unusedSimpArgs false
attribute [local irreducible] World.setCell

/-- an integer's text -/
def itx (a : Int) : ByteArray := ⟨(Lib.itoa a).toArray⟩
theorem itx_len (a : Int) (h : -1000000000 ≤ a ∧ a ≤ 1000000000) : (itx a).size ≤ 20 := by
  unfold itx Lib.itoa
  split
  · have := dig_len 18 a.natAbs (by omega)
    simp [ByteArray.size]; omega
  · have := dig_len 18 a.toNat (by omega)
    simp [ByteArray.size]; omega

set_option maxRecDepth 100000 in
set_option maxHeartbeats 1000000 in
theorem int_neg (k : Nat) (w : World) (h : 1 ≤ k) (h2 : k ≤ 1000000000) :
    Calls Tryd.prog 63 #[.int .i64 (-(k : Int))] w fun e w' => e = .returned (.string (itx (-(k : Int)))) ∧ Below w.heap.size w w' := by
  have hz : itx (-(k : Int)) = (⟨#[45]⟩ : ByteArray) ++ ⟨(Lib.decDigits k).toArray⟩ := by
    unfold itx Lib.itoa
    rw [if_pos (by omega)]
    have : (-(k : Int)).natAbs = k := by omega
    rw [this, show (#[45] : Array UInt8) = [45].toArray from rfl, ByteArray.mk_append_mk]
    rfl
  have hl : (⟨(Lib.decDigits k).toArray⟩ : ByteArray).size ≤ 19 := by
    have := dig_len 18 k (by omega)
    simpa [ByteArray.size] using this
  rw [hz]
  clear hz
  have hnn := fun w => num k w (by omega)
  generalize (⟨(Lib.decDigits k).toArray⟩ : ByteArray) = S at *
  have ka := fun (w : World) => run_string_add_sum (P := Tryd.prog) w ⟨#[45]⟩ S (by have h45 : (⟨#[45]⟩ : ByteArray).size = 1 := rfl; omega)
  go_enter Tryd.func63, Tryd.ntmps63
  go_wp2_with (first | (go_at_call 52; (with_reducible refine (hnn _).mono ?_); rintro e w1 ⟨rfl, hb1⟩) | go_in)
  refine bodyPost_ret (v := .string (⟨#[45]⟩ ++ S)) (by simp [results, Tryd.results63, go_sem, *]) rfl ⟨rfl, ?_⟩
  repeat' (first | assumption | (with_reducible exact Below.refl _ _) | (with_reducible refine Below.alloc ?_ ?_ _) | (with_reducible refine Below.drew ?_) | (with_reducible refine Below.setCell ?_ ?_ _) | (with_reducible refine chain ?_ (by assumption) ?_) | omega | (simp; done) | (simp; omega))

set_option maxRecDepth 100000 in
set_option maxHeartbeats 1000000 in
theorem int_pos (k : Nat) (w : World) (h2 : k ≤ 1000000000) :
    Calls Tryd.prog 63 #[.int .i64 (k : Int)] w fun e w' => e = .returned (.string (itx (k : Int))) ∧ Below w.heap.size w w' := by
  have hz : itx (k : Int) = ⟨(Lib.decDigits k).toArray⟩ := by
    unfold itx Lib.itoa
    rw [if_neg (by omega)]
    have : ((k : Int)).toNat = k := by omega
    rw [this]
  rw [hz]
  clear hz
  have hnn := fun w => num k w (by omega)
  generalize (⟨(Lib.decDigits k).toArray⟩ : ByteArray) = S at *
  go_enter Tryd.func63, Tryd.ntmps63
  go_wp2_with (first | (go_at_call 52; (with_reducible refine (hnn _).mono ?_); rintro e w1 ⟨rfl, hb1⟩) | go_in)
  refine bodyPost_ret (v := .string S) (by simp [results, Tryd.results63, go_sem, *]) rfl ⟨rfl, ?_⟩
  repeat' (first | assumption | (with_reducible exact Below.refl _ _) | (with_reducible refine Below.alloc ?_ ?_ _) | (with_reducible refine Below.drew ?_) | (with_reducible refine Below.setCell ?_ ?_ _) | (with_reducible refine chain ?_ (by assumption) ?_) | omega | (simp; done) | (simp; omega))

theorem int_t (a : Int) (w : World) (h : -1000000000 ≤ a ∧ a ≤ 1000000000) :
    Calls Tryd.prog 63 #[.int .i64 a] w fun e w' => e = .returned (.string (itx a)) ∧ Below w.heap.size w w' := by
  rcases Int.lt_or_le a 0 with k | k
  · have := int_neg a.natAbs w (by omega) (by omega)
    rwa [show (-(a.natAbs : Int)) = a by omega] at this
  · have := int_pos a.toNat w (by omega)
    rwa [show ((a.toNat : Int)) = a by omega] at this

abbrev sp : ByteArray := ⟨#[32]⟩
theorem add_str (w : World) (a b : ByteArray) (h : a.size ≤ 1000) (k : b.size ≤ 1000) : (Op.stringOp .add a b).run Tryd.prog w = .ok (.string (a ++ b)) w :=
  run_string_add_sum (P := Tryd.prog) w a b (by omega)

set_option maxRecDepth 100000 in
set_option maxHeartbeats 400000 in
theorem text (a b c d : Int) (w : World) (hx : vr a b c d = true) :
    Calls Tryd.prog 33 #[rg a b c d] w fun e w' => e = .returned (.string (itx a ++ ⟨#[32]⟩ ++ itx b ++ ⟨#[32]⟩ ++ itx c ++ ⟨#[32]⟩ ++ itx d)) ∧ Below w.heap.size w w' := by
  obtain ⟨xa, xb, xc, xd⟩ := vr_iff.1 hx
  have ha := fun w => int_t a w xa
  have hb := fun w => int_t b w xb
  have hc := fun w => int_t c w xc
  have hd := fun w => int_t d w xd
  have la := itx_len a xa
  have lb := itx_len b xb
  have lc := itx_len c xc
  have ld := itx_len d xd
  generalize itx a = A at *
  generalize itx b = B at *
  generalize itx c = C at *
  generalize itx d = D at *
  have q1 : ¬ (9223372036854775807 < A.size + 1) := by omega
  have q2 : ¬ (9223372036854775807 < A.size + 1 + B.size) := by omega
  have q3 : ¬ (9223372036854775807 < A.size + 1 + B.size + 1) := by omega
  have q4 : ¬ (9223372036854775807 < A.size + 1 + B.size + 1 + C.size) := by omega
  have q5 : ¬ (9223372036854775807 < A.size + 1 + B.size + 1 + C.size + 1) := by omega
  have q6 : ¬ (9223372036854775807 < A.size + 1 + B.size + 1 + C.size + 1 + D.size) := by omega
  clear xa xb xc xd la lb lc ld hx
  go_enter Tryd.func33, Tryd.ntmps33
  go_wp2
  go_region_held3 (fun w' => w'.cell? ⟨w.heap.size, 0, none⟩ = some (.int .i64 a) ∧ w'.cell? ⟨w.heap.size, 1, none⟩ = some (.int .i64 b) ∧ w'.cell? ⟨w.heap.size, 2, none⟩ = some (.int .i64 c) ∧ w'.cell? ⟨w.heap.size, 3, none⟩ = some (.int .i64 d))
    (first | (with_reducible exact ⟨y0, y1, y2, y3⟩) | (go_split_ands; with_reducible exact ⟨kc hb4 (by with_reducible assumption), kc hb4 (by with_reducible assumption), kc hb4 (by with_reducible assumption), kc hb4 (by with_reducible assumption)⟩) | (go_split_ands; with_reducible exact ⟨kc hb3 (by with_reducible assumption), kc hb3 (by with_reducible assumption), kc hb3 (by with_reducible assumption), kc hb3 (by with_reducible assumption)⟩) | (go_split_ands; with_reducible exact ⟨kc hb2 (by with_reducible assumption), kc hb2 (by with_reducible assumption), kc hb2 (by with_reducible assumption), kc hb2 (by with_reducible assumption)⟩) | go_keep)
    (first
      | (go_at_call 63; (with_reducible refine (ha _).mono ?_); rintro e w1 ⟨rfl, hb1⟩; have hz1 := hb1.size; simp at hz1; obtain ⟨hc1, hf1, _⟩ := bcell hb1; have y0 : w1.cell? ⟨w.heap.size, 0, none⟩ = some (.int .i64 a) := (by rw [hc1 _ _ (by simp)]; simp); have y1 : w1.cell? ⟨w.heap.size, 1, none⟩ = some (.int .i64 b) := (by rw [hc1 _ _ (by simp)]; simp); have y2 : w1.cell? ⟨w.heap.size, 2, none⟩ = some (.int .i64 c) := (by rw [hc1 _ _ (by simp)]; simp); have y3 : w1.cell? ⟨w.heap.size, 3, none⟩ = some (.int .i64 d) := (by rw [hc1 _ _ (by simp)]; simp); clear hc1 hf1)
      | (go_at_call 63; (with_reducible refine (hb _).mono ?_); rintro e w2 ⟨rfl, hb2⟩; have hz2 := hb2.size; try simp at hz2)
      | (go_at_call 63; (with_reducible refine (hc _).mono ?_); rintro e w3 ⟨rfl, hb3⟩; have hz3 := hb3.size; try simp at hz3)
      | (go_at_call 63; (with_reducible refine (hd _).mono ?_); rintro e w4 ⟨rfl, hb4⟩; have hz4 := hb4.size; try simp at hz4))
  all_goals go_wp2
  all_goals clear q1 q2 q3 q4 q5 q6 ha hb hc hd
  all_goals generalize A ++ (⟨#[32]⟩ : ByteArray) ++ B ++ ⟨#[32]⟩ ++ C ++ ⟨#[32]⟩ ++ D = T
  all_goals refine bodyPost_ret (v := .string T) ?_ rfl ⟨rfl, ?_⟩
  · simp [results, Tryd.results33, go_sem]
  · exact (((chain ((((Below.refl _ _).alloc (Nat.le_refl _) _).drew).trans (hb1.mono (by simp))) hb2 (by omega)).trans (hb3.mono (by omega))).trans (hb4.mono (by omega)))
/-- the four integers with spaces between -/
def ftx (a b c d : Int) : ByteArray := itx a ++ ⟨#[32]⟩ ++ itx b ++ ⟨#[32]⟩ ++ itx c ++ ⟨#[32]⟩ ++ itx d
end Go.Proofs.YtdbnjoeanoiifaaDoor
