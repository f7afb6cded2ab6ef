/- The contract of the program's FormatDyadic. -/
import Derived.Test.YtefmglofnoinmaaDoorFd
namespace Go.Proofs.YtefmglofnoinmaaDoor
open Go.RowKit RM
set_option linter.unusedVariables false
set_option linter.unusedSimpArgs false
attribute [local irreducible] World.setCell

theorem p10.mono {w w' : World} (h : p10 w) (hb : Below w.heap.size w w') : p10 w' := fun W hW => h W (hb.trans (hW.mono hb.size))

set_option maxRecDepth 100000 in
set_option maxHeartbeats 1000000 in
theorem fd_i_f (a b c d e : Int) (w : World) (hv : vi a b c d e = false) :
    Calls Tryd.prog 19 #[dy a b c d e] w fun ee w' => ee = .returned (.tuple #[.string ⟨#[]⟩, .bool false]) ∧ Below w.heap.size w w' := by
  have H := hid hv
  clear hv
  go_enter Tryd.func19, Tryd.ntmps19
  go_wp2_with (first
    | (go_at_call 40; ((with_reducible refine (ivd_no _ H.out).mono ?_); rintro ee w1 ⟨rfl, hb1⟩; obtain ⟨hc1, hf1, hz1⟩ := bcell hb1; (try simp at hz1)))
    | go_in)
  all_goals refine bodyPost_ret (v := .tuple #[.string ⟨#[]⟩, .bool false]) (by simp [results, Tryd.results19, go_sem, *]) rfl ⟨rfl, ?_⟩
  all_goals repeat' (first | (with_reducible exact Below.refl _ _) | (with_reducible refine Below.alloc ?_ ?_ _) | (with_reducible refine Below.drew ?_) | (with_reducible refine Below.setCell ?_ ?_ _) | (with_reducible refine chain ?_ (by assumption) ?_) | omega | (simp; done) | (simp; omega))

set_option maxRecDepth 100000 in
set_option maxHeartbeats 1000000 in
theorem fd_i_t (a b c d : Int) (e : Nat) (w : World) (ht : p10 w) (hv : vd a b c d e = true) :
    Calls Tryd.prog 19 #[dy a b c d e] w fun ee w' => ee = .returned (.tuple #[.string (fdx a b c d e), .bool true]) ∧ Below w.heap.size w w' := by
  obtain ⟨hx, he, _⟩ := vd_iff.1 hv
  have H := hid hv
  have hfr : ∀ W, Below w.heap.size w W → Calls Tryd.prog 10 #[rg a b c d] W fun e w' => e = .returned (.tuple #[.string (ftx a b c d), .bool true]) ∧ Below W.heap.size W w' := fun W hW => fr_i_t a b c d W (ht.mono hW) hx
  have hit : ∀ W, Below w.heap.size w W → Calls Tryd.prog 26 #[.int .i64 (e : Int)] W fun ee w' => ee = .returned (.string (itx (e : Int))) ∧ Below W.heap.size W w' := fun W hW => itoa_b (e : Int) w W ht hW (by omega)
  have la := ftx_len a b c d hx
  have lb := itx_len (e : Int) (by omega)
  unfold fdx
  generalize ftx a b c d = A at *
  generalize itx (e : Int) = B at *
  have q1 : ¬ (9223372036854775807 < A.size + 1) := by omega
  have q2 : ¬ (9223372036854775807 < A.size + 1 + B.size) := by omega
  clear la lb hx hv he ht
  go_enter Tryd.func19, Tryd.ntmps19
  go_wp2_with (first
    | (go_at_call 40; ((with_reducible refine (ivd_v _ H.out).mono ?_); rintro ee w1 ⟨rfl, hb1⟩; obtain ⟨hc1, hf1, hz1⟩ := bcell hb1; (try simp at hz1); have hB1 : Below w.heap.size w w1 := (((Below.refl _ _).alloc (Nat.le_refl _) _).trans (hb1.mono (by simp))); have y0 : w1.cell? ⟨w.heap.size, 0, none⟩ = some (.int .i64 a) := (by rw [hc1 _ _ (by simp)]; simp); have y1 : w1.cell? ⟨w.heap.size, 1, none⟩ = some (.int .i64 b) := (by rw [hc1 _ _ (by simp)]; simp); have y2 : w1.cell? ⟨w.heap.size, 2, none⟩ = some (.int .i64 c) := (by rw [hc1 _ _ (by simp)]; simp); have y3 : w1.cell? ⟨w.heap.size, 3, none⟩ = some (.int .i64 d) := (by rw [hc1 _ _ (by simp)]; simp); have y4 : w1.cell? ⟨w.heap.size, 4, none⟩ = some (.int .i64 (e : Int)) := (by rw [hc1 _ _ (by simp)]; simp); clear hc1 hf1))
    | (go_at_call 10; ((with_reducible refine (hfr _ hB1).mono ?_); rintro ee w2 ⟨rfl, hb2⟩; have hz2 := hb2.size; have z4 := kc hb2 y4; have hB2 : Below w.heap.size w w2 := hB1.trans (hb2.mono (by omega))))
    | (go_at_call 26; ((with_reducible refine (hit _ hB2).mono ?_); rintro ee w3 ⟨rfl, hb3⟩; have hz3 := hb3.size))
    | go_in)
  all_goals clear q1 q2 hfr hit
  all_goals generalize A ++ (⟨#[47]⟩ : ByteArray) ++ B = T
  all_goals refine bodyPost_ret (v := .tuple #[.string T, .bool true]) ?_ rfl ⟨rfl, ?_⟩
  · simp [results, Tryd.results19, go_sem]
  · exact hB2.trans (hb3.mono hB2.size)

theorem fd_both (a b c d e : Int) (w : World) (ht : p10 w) : ∃ (T : ByteArray) (ok : Bool),
    (∀ W, Calls Tryd.prog 17 #[dy a b c d e] W fun e w' => e = .returned (.tuple #[.string T, .bool ok]) ∧ Below W.heap.size W w') ∧
    (∀ W, Below w.heap.size w W → Calls Tryd.prog 19 #[dy a b c d e] W fun e w' => e = .returned (.tuple #[.string T, .bool ok]) ∧ Below W.heap.size W w') := by
  rcases vi_cases (a := a) (b := b) (c := c) (d := d) (e := e) with h | ⟨n, rfl, h⟩
  · exact ⟨⟨#[]⟩, false, fun W => fd_s_f a b c d e W h, fun W _ => fd_i_f a b c d e W h⟩
  · exact ⟨fdx a b c d n, true, fun W => fd_s_t a b c d n W h, fun W hW => fd_i_t a b c d n W (ht.mono hW) h⟩

set_option maxRecDepth 100000 in
set_option maxHeartbeats 2000000 in
theorem fnExactFormatDyadic_walk (a b c d e : Int) (w : World) (ht : p10 w) :
    Calls Tryd.prog 6 #[dy a b c d e] w fun e w' => e = .returned (.bool true) ∧ Below w.heap.size w w' := by
  obtain ⟨T, ok, hs, hi⟩ := fd_both a b c d e w ht
  clear ht
  go_enter Tryd.func6, Tryd.ntmps6
  go_wp2_with (first
    | (go_at_call 18; first
        | ((with_reducible refine (td a b c d e (w.alloc _)).mono ?_); rintro ee w1 ⟨rfl, hb1⟩; obtain ⟨hc1, hf1, hz1⟩ := bcell hb1; (try simp at hz1); have y0 : w1.cell? ⟨w.heap.size, 0, none⟩ = some (.int .i64 a) := (by rw [hc1 _ _ (by simp)]; simp); have y1 : w1.cell? ⟨w.heap.size, 1, none⟩ = some (.int .i64 b) := (by rw [hc1 _ _ (by simp)]; simp); have y2 : w1.cell? ⟨w.heap.size, 2, none⟩ = some (.int .i64 c) := (by rw [hc1 _ _ (by simp)]; simp); have y3 : w1.cell? ⟨w.heap.size, 3, none⟩ = some (.int .i64 d) := (by rw [hc1 _ _ (by simp)]; simp); have y4 : w1.cell? ⟨w.heap.size, 4, none⟩ = some (.int .i64 e) := (by rw [hc1 _ _ (by simp)]; simp); clear hc1 hf1; have hB1 : Below w.heap.size w w1 := (((Below.refl _ _).alloc (Nat.le_refl _) _).trans (hb1.mono (by simp))))
        | ((with_reducible refine (td a b c d e _).mono ?_); rintro ee w3 ⟨rfl, hb3⟩; have hz3 := hb3.size))
    | (go_at_call 17; ((with_reducible refine (hs _).mono ?_); rintro ee w2 ⟨rfl, hb2⟩; have hz2 := hb2.size; have z0 : w2.cell? ⟨w.heap.size, 0, none⟩ = some (.int .i64 a) := kc hb2 y0; have z1 : w2.cell? ⟨w.heap.size, 1, none⟩ = some (.int .i64 b) := kc hb2 y1; have z2 : w2.cell? ⟨w.heap.size, 2, none⟩ = some (.int .i64 c) := kc hb2 y2; have z3 : w2.cell? ⟨w.heap.size, 3, none⟩ = some (.int .i64 d) := kc hb2 y3; have z4 : w2.cell? ⟨w.heap.size, 4, none⟩ = some (.int .i64 e) := kc hb2 y4))
    | (go_at_call 19; ((with_reducible refine (hi _ ((hB1.trans (hb2.mono (by omega))).trans (hb3.mono (by omega)))).mono ?_); rintro ee w4 ⟨rfl, hb4⟩; have hz4 := hb4.size))
    | go_in)
  all_goals refine bodyPost_ret (v := .bool true) (by simp [results, Tryd.results6, go_sem]) rfl ⟨rfl, ?_⟩
  all_goals exact ((hB1.trans (hb2.mono (by omega))).trans (hb3.mono (by omega))).trans (hb4.mono (by omega))
end Go.Proofs.YtefmglofnoinmaaDoor
