/- The contract of the program's FormatDyadic. -/
import Derived.Test.YtdbnjoeanoiifaaDoorFd
import Derived.Test.YtdbnjoeanoiifaaDoorLwFmt
namespace Go.Proofs.YtdbnjoeanoiifaaDoor
open Go.RowKit RM
set_option linter.unusedVariables false
set_option linter.unusedSimpArgs false
attribute [local irreducible] World.setCell


set_option maxRecDepth 100000 in
set_option maxHeartbeats 1000000 in
theorem fd_i_f (a b c d e : Int) (w : World) (hv : vi a b c d e = false) :
    Calls Tryd.prog 43 #[dy a b c d e] w fun ee w' => ee = .returned (.tuple #[.string ⟨#[]⟩, .bool false]) ∧ Below w.heap.size w w' := by
  have H := hid hv
  clear hv
  go_enter Tryd.func43, Tryd.ntmps43
  go_wp2_with (first
    | (go_at_call 71; ((with_reducible refine (ivd_no _ H.out).mono ?_); rintro ee w1 ⟨rfl, hb1⟩; obtain ⟨hc1, hf1, hz1⟩ := bcell hb1; (try simp at hz1)))
    | go_in)
  all_goals refine bodyPost_ret (v := .tuple #[.string ⟨#[]⟩, .bool false]) (by simp [results, Tryd.results43, go_sem, *]) rfl ⟨rfl, ?_⟩
  all_goals repeat' (first | (with_reducible exact Below.refl _ _) | (with_reducible refine Below.alloc ?_ ?_ _) | (with_reducible refine Below.drew ?_) | (with_reducible refine Below.setCell ?_ ?_ _) | (with_reducible refine chain ?_ (by assumption) ?_) | omega | (simp; done) | (simp; omega))

set_option maxRecDepth 100000 in
set_option maxHeartbeats 1000000 in
theorem fd_i_t (a b c d : Int) (e : Nat) (w : World) (ht : p10 w) (hv : vd a b c d e = true) :
    Calls Tryd.prog 43 #[dy a b c d e] w fun ee w' => ee = .returned (.tuple #[.string (fdx a b c d e), .bool true]) ∧ Below w.heap.size w w' := by
  obtain ⟨hx, he, _⟩ := vd_iff.1 hv
  have H := hid hv
  have hfr : ∀ W, Below w.heap.size w W → Calls Tryd.prog 10 #[rg a b c d] W fun e w' => e = .returned (.tuple #[.string (ftx a b c d), .bool true]) ∧ Below W.heap.size W w' := fun W hW => fr_i_t a b c d W (ht.mono hW) hx
  have hit : ∀ W, Below w.heap.size w W → Calls Tryd.prog 28 #[.int .i64 (e : Int)] W fun ee w' => ee = .returned (.string (itx (e : Int))) ∧ Below W.heap.size W w' := fun W hW => itoa_b (e : Int) w W ht hW (by omega)
  have la := ftx_len a b c d hx
  have lb := itx_len (e : Int) (by omega)
  unfold fdx
  generalize ftx a b c d = A at *
  generalize itx (e : Int) = B at *
  have q1 : ¬ (9223372036854775807 < A.size + 1) := by omega
  have q2 : ¬ (9223372036854775807 < A.size + 1 + B.size) := by omega
  clear la lb hx hv he ht
  go_enter Tryd.func43, Tryd.ntmps43
  go_wp2_with (first
    | (go_at_call 71; ((with_reducible refine (ivd_v _ H.out).mono ?_); rintro ee w1 ⟨rfl, hb1⟩; obtain ⟨hc1, hf1, hz1⟩ := bcell hb1; (try simp at hz1); have hB1 : Below w.heap.size w w1 := (((Below.refl _ _).alloc (Nat.le_refl _) _).trans (hb1.mono (by simp))); have y0 : w1.cell? ⟨w.heap.size, 0, none⟩ = some (.int .i64 a) := (by rw [hc1 _ _ (by simp)]; simp); have y1 : w1.cell? ⟨w.heap.size, 1, none⟩ = some (.int .i64 b) := (by rw [hc1 _ _ (by simp)]; simp); have y2 : w1.cell? ⟨w.heap.size, 2, none⟩ = some (.int .i64 c) := (by rw [hc1 _ _ (by simp)]; simp); have y3 : w1.cell? ⟨w.heap.size, 3, none⟩ = some (.int .i64 d) := (by rw [hc1 _ _ (by simp)]; simp); have y4 : w1.cell? ⟨w.heap.size, 4, none⟩ = some (.int .i64 (e : Int)) := (by rw [hc1 _ _ (by simp)]; simp); clear hc1 hf1))
    | (go_at_call 10; ((with_reducible refine (hfr _ hB1).mono ?_); rintro ee w2 ⟨rfl, hb2⟩; have hz2 := hb2.size; have z4 := kc hb2 y4; have hB2 : Below w.heap.size w w2 := hB1.trans (hb2.mono (by omega))))
    | (go_at_call 28; ((with_reducible refine (hit _ hB2).mono ?_); rintro ee w3 ⟨rfl, hb3⟩; have hz3 := hb3.size))
    | go_in)
  all_goals clear q1 q2 hfr hit
  all_goals generalize A ++ (⟨#[47]⟩ : ByteArray) ++ B = T
  all_goals refine bodyPost_ret (v := .tuple #[.string T, .bool true]) ?_ rfl ⟨rfl, ?_⟩
  · simp [results, Tryd.results43, go_sem]
  · exact hB2.trans (hb3.mono hB2.size)

end Go.Proofs.YtdbnjoeanoiifaaDoor
