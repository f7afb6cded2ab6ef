/- The contract of the model's FormatDyadic and of the program's. -/
import Derived.Test.YtefmglofnoinmaaDoorFm
import Derived.Test.YtefmglofnoinmaaDoorSf
import Derived.Test.YtefmglofnoinmaaDoorDyV
namespace Go.Proofs.YtefmglofnoinmaaDoor
open Go.RowKit RM
set_option linter.unusedVariables false
set_option linter.unusedSimpArgs false
attribute [local irreducible] World.setCell

def fdx (a b c d : Int) (e : Nat) : ByteArray := ftx a b c d ++ ⟨#[47]⟩ ++ itx (e : Int)
theorem itx_nat (k : Nat) : itx (k : Int) = ⟨(Lib.decDigits k).toArray⟩ := by
  unfold itx Lib.itoa
  rw [if_neg (by omega)]
  have : ((k : Int)).toNat = k := by omega
  rw [this]
theorem ftx_len (a b c d : Int) (h : vr a b c d = true) : (ftx a b c d).size ≤ 83 := by
  obtain ⟨xa, xb, xc, xd⟩ := vr_iff.1 h
  have la := itx_len a xa
  have lb := itx_len b xb
  have lc := itx_len c xc
  have ld := itx_len d xd
  unfold ftx
  simp only [ByteArray.size_append, show (⟨#[32]⟩ : ByteArray).size = 1 from rfl]
  omega

set_option maxRecDepth 100000 in
set_option maxHeartbeats 1000000 in
theorem text2 (a b c d : Int) (e : Nat) (w : World) (hx : vr a b c d = true) (he : e ≤ 60) :
    Calls Tryd.prog 39 #[dy a b c d e] w fun ee w' => ee = .returned (.string (fdx a b c d e)) ∧ Below w.heap.size w w' := by
  have ha : ∀ w, Calls Tryd.prog 31 #[rg a b c d] w fun e w' => e = .returned (.string (ftx a b c d)) ∧ Below w.heap.size w w' := fun w => text a b c d w hx
  have hb := fun w => num e w (by omega)
  simp only [← itx_nat] at hb
  have la := ftx_len a b c d hx
  have lb := itx_len (e : Int) (by omega)
  unfold fdx
  generalize ftx a b c d = A at *
  generalize itx (e : Int) = B at *
  have q1 : ¬ (9223372036854775807 < A.size + 1) := by omega
  have q2 : ¬ (9223372036854775807 < A.size + 1 + B.size) := by omega
  clear la lb hx he
  go_enter Tryd.func39, Tryd.ntmps39
  go_wp2
  go_region_held3 (fun w' => w'.cell? ⟨w.heap.size, 0, none⟩ = some (.int .i64 a) ∧ w'.cell? ⟨w.heap.size, 1, none⟩ = some (.int .i64 b) ∧ w'.cell? ⟨w.heap.size, 2, none⟩ = some (.int .i64 c) ∧ w'.cell? ⟨w.heap.size, 3, none⟩ = some (.int .i64 d) ∧ w'.cell? ⟨w.heap.size, 4, none⟩ = some (.int .i64 (e : Int)))
    (first | (with_reducible exact ⟨y0, y1, y2, y3, y4⟩) | (go_split_ands; with_reducible exact ⟨kc hb2 (by with_reducible assumption), kc hb2 (by with_reducible assumption), kc hb2 (by with_reducible assumption), kc hb2 (by with_reducible assumption), kc hb2 (by with_reducible assumption)⟩) | go_keep)
    (first
      | (go_at_call 31; (with_reducible refine (ha _).mono ?_); rintro ee w1 ⟨rfl, hb1⟩; have hz1 := hb1.size; simp at hz1; obtain ⟨hc1, hf1, _⟩ := bcell hb1; have y0 : w1.cell? ⟨w.heap.size, 0, none⟩ = some (.int .i64 a) := (by rw [hc1 _ _ (by simp)]; simp); have y1 : w1.cell? ⟨w.heap.size, 1, none⟩ = some (.int .i64 b) := (by rw [hc1 _ _ (by simp)]; simp); have y2 : w1.cell? ⟨w.heap.size, 2, none⟩ = some (.int .i64 c) := (by rw [hc1 _ _ (by simp)]; simp); have y3 : w1.cell? ⟨w.heap.size, 3, none⟩ = some (.int .i64 d) := (by rw [hc1 _ _ (by simp)]; simp); have y4 : w1.cell? ⟨w.heap.size, 4, none⟩ = some (.int .i64 (e : Int)) := (by rw [hc1 _ _ (by simp)]; simp); clear hc1 hf1)
      | (go_at_call 57; (with_reducible refine (hb _).mono ?_); rintro ee w2 ⟨rfl, hb2⟩; have hz2 := hb2.size))
  all_goals go_wp2
  all_goals clear q1 q2 ha hb
  all_goals generalize A ++ (⟨#[47]⟩ : ByteArray) ++ B = T
  all_goals refine bodyPost_ret (v := .string T) ?_ rfl ⟨rfl, ?_⟩
  · simp [results, Tryd.results39, go_sem]
  · exact (((((Below.refl _ _).alloc (Nat.le_refl _) _).drew).trans (hb1.mono (by simp))).trans (hb2.mono (by omega)))

set_option maxRecDepth 100000 in
set_option maxHeartbeats 1000000 in
theorem fd_s_t (a b c d : Int) (e : Nat) (w : World) (hv : vd a b c d e = true) :
    Calls Tryd.prog 17 #[dy a b c d e] w fun ee w' => ee = .returned (.tuple #[.string (fdx a b c d e), .bool true]) ∧ Below w.heap.size w w' := by
  obtain ⟨hx, he, _⟩ := vd_iff.1 hv
  have H := hid hv
  have ht : ∀ w, Calls Tryd.prog 39 #[dy a b c d e] w fun e w' => e = .returned (.string (fdx a b c d _)) ∧ Below w.heap.size w w' := fun w => text2 a b c d e w hx he
  generalize fdx a b c d e = T at *
  clear hx hv he
  go_enter Tryd.func17, Tryd.ntmps17
  go_wp2_with (first
    | (go_at_call 38; ((with_reducible refine (g2_t _ H.out).mono ?_); rintro ee w1 ⟨rfl, hb1⟩; obtain ⟨hc1, hf1, hz1⟩ := bcell hb1; (try simp at hz1)))
    | (go_at_call 39; ((with_reducible refine (ht _).mono ?_); rintro ee w2 ⟨rfl, hb2⟩; obtain ⟨hc2, hf2, hz2⟩ := bcell hb2; (try simp at hz2)))
    | go_in)
  all_goals refine bodyPost_ret (v := .tuple #[.string T, .bool true]) (by simp [results, Tryd.results17, go_sem, *]) rfl ⟨rfl, ?_⟩
  all_goals repeat' (first | (with_reducible exact Below.refl _ _) | (with_reducible refine Below.alloc ?_ ?_ _) | (with_reducible refine Below.drew ?_) | (with_reducible refine Below.setCell ?_ ?_ _) | (with_reducible refine chain ?_ (by assumption) ?_) | omega | (simp; done) | (simp; omega))

set_option maxRecDepth 100000 in
set_option maxHeartbeats 1000000 in
theorem fd_s_f (a b c d e : Int) (w : World) (hv : vi a b c d e = false) :
    Calls Tryd.prog 17 #[dy a b c d e] w fun ee w' => ee = .returned (.tuple #[.string ⟨#[]⟩, .bool false]) ∧ Below w.heap.size w w' := by
  have H := hid hv
  clear hv
  go_enter Tryd.func17, Tryd.ntmps17
  go_wp2_with (first
    | (go_at_call 38; ((with_reducible refine (g2_no _ H.out).mono ?_); rintro ee w1 ⟨rfl, hb1⟩; obtain ⟨hc1, hf1, hz1⟩ := bcell hb1; (try simp at hz1)))
    | go_in)
  all_goals refine bodyPost_ret (v := .tuple #[.string ⟨#[]⟩, .bool false]) (by simp [results, Tryd.results17, go_sem, *]) rfl ⟨rfl, ?_⟩
  all_goals repeat' (first | (with_reducible exact Below.refl _ _) | (with_reducible refine Below.alloc ?_ ?_ _) | (with_reducible refine Below.drew ?_) | (with_reducible refine Below.setCell ?_ ?_ _) | (with_reducible refine chain ?_ (by assumption) ?_) | omega | (simp; done) | (simp; omega))
end Go.Proofs.YtefmglofnoinmaaDoor
