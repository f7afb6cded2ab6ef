/- The walk of the law on FormatRing. -/
import Derived.Test.YtefmglofnoinmaaDoorFm
import Derived.Test.YtefmglofnoinmaaDoorSf
import Derived.Test.YtefmglofnoinmaaDoorHeldB
namespace Go.Proofs.YtefmglofnoinmaaDoor
open Go.RowKit RM
set_option linter.unusedVariables false
set_option linter.unusedSimpArgs false
attribute [local irreducible] World.setCell

theorem p10.mono {w w' : World} (h : p10 w) (hb : Below w.heap.size w w') : p10 w' := fun W hW => h W (hb.trans (hW.mono hb.size))

set_option maxRecDepth 100000 in
set_option maxHeartbeats 1000000 in
theorem tr (a b c d : Int) (w : World) :
    Calls Tryd.prog 15 #[rg a b c d] w fun e w' => e = .returned (rg a b c d) ∧ Below w.heap.size w w' := by
  go_enter Tryd.func15, Tryd.ntmps15
  go_wp2_with (first | go_in)
  refine bodyPost_ret (v := rg a b c d) (by simp [results, Tryd.results15, go_sem, *]) rfl ⟨rfl, ?_⟩
  repeat' (first | (with_reducible exact Below.refl _ _) | (with_reducible refine Below.alloc ?_ ?_ _) | (with_reducible refine Below.drew ?_) | (with_reducible refine Below.setCell ?_ ?_ _) | (with_reducible refine chain ?_ (by assumption) ?_) | omega | (simp; done) | (simp; omega))

set_option maxRecDepth 100000 in
set_option maxHeartbeats 1000000 in
theorem fr_i_f (a b c d : Int) (w : World) (hx : vr a b c d = false) :
    Calls Tryd.prog 10 #[rg a b c d] w fun e w' => e = .returned (.tuple #[.string ⟨#[]⟩, .bool false]) ∧ Below w.heap.size w w' := by
  have H := hid hx
  clear hx
  go_enter Tryd.func10, Tryd.ntmps10
  go_wp2_with (first
    | (go_at_call 24; ((with_reducible refine (iv_f _ _ _ _ _ H.out).mono ?_); rintro e w1 ⟨rfl, hb1⟩; obtain ⟨hc1, hf1, hz1⟩ := bcell hb1; (try simp at hz1)))
    | go_in)
  all_goals refine bodyPost_ret (v := .tuple #[.string ⟨#[]⟩, .bool false]) (by simp [results, Tryd.results10, go_sem, *]) rfl ⟨rfl, ?_⟩
  all_goals repeat' (first | (with_reducible exact Below.refl _ _) | (with_reducible refine Below.alloc ?_ ?_ _) | (with_reducible refine Below.drew ?_) | (with_reducible refine Below.setCell ?_ ?_ _) | (with_reducible refine chain ?_ (by assumption) ?_) | omega | (simp; done) | (simp; omega))

/-- both answer the same -/
theorem fr_both (a b c d : Int) (w : World) (ht : p10 w) : ∃ (T : ByteArray) (ok : Bool),
    (∀ W, Calls Tryd.prog 14 #[rg a b c d] W fun e w' => e = .returned (.tuple #[.string T, .bool ok]) ∧ Below W.heap.size W w') ∧
    (∀ W, Below w.heap.size w W → Calls Tryd.prog 10 #[rg a b c d] W fun e w' => e = .returned (.tuple #[.string T, .bool ok]) ∧ Below W.heap.size W w') := by
  cases h : vr a b c d
  · exact ⟨⟨#[]⟩, false, fun W => fr_s_f a b c d W h, fun W _ => fr_i_f a b c d W h⟩
  · exact ⟨ftx a b c d, true, fun W => fr_s_t a b c d W h, fun W hW => fr_i_t a b c d W (ht.mono hW) h⟩

set_option maxRecDepth 100000 in
set_option maxHeartbeats 2000000 in
theorem fnExactFormatRing_walk (a b c d : Int) (w : World) (ht : p10 w) :
    Calls Tryd.prog 4 #[rg a b c d] w fun e w' => e = .returned (.bool true) ∧ Below w.heap.size w w' := by
  obtain ⟨T, ok, hs, hi⟩ := fr_both a b c d w ht
  clear ht
  go_enter Tryd.func4, Tryd.ntmps4
  go_wp2_with (first
    | (go_at_call 15; first
        | ((with_reducible refine (tr a b c d (w.alloc _)).mono ?_); rintro e w1 ⟨rfl, hb1⟩; obtain ⟨hc1, hf1, hz1⟩ := bcell hb1; (try simp at hz1); have y0 : w1.cell? ⟨w.heap.size, 0, none⟩ = some (.int .i64 a) := (by rw [hc1 _ _ (by simp)]; simp); have y1 : w1.cell? ⟨w.heap.size, 1, none⟩ = some (.int .i64 b) := (by rw [hc1 _ _ (by simp)]; simp); have y2 : w1.cell? ⟨w.heap.size, 2, none⟩ = some (.int .i64 c) := (by rw [hc1 _ _ (by simp)]; simp); have y3 : w1.cell? ⟨w.heap.size, 3, none⟩ = some (.int .i64 d) := (by rw [hc1 _ _ (by simp)]; simp); clear hc1 hf1; have hB1 : Below w.heap.size w w1 := (((Below.refl _ _).alloc (Nat.le_refl _) _).trans (hb1.mono (by simp))))
        | ((with_reducible refine (tr a b c d _).mono ?_); rintro e w3 ⟨rfl, hb3⟩; have hz3 := hb3.size))
    | (go_at_call 14; ((with_reducible refine (hs _).mono ?_); rintro e w2 ⟨rfl, hb2⟩; have hz2 := hb2.size; have z0 : w2.cell? ⟨w.heap.size, 0, none⟩ = some (.int .i64 a) := kc hb2 y0; have z1 : w2.cell? ⟨w.heap.size, 1, none⟩ = some (.int .i64 b) := kc hb2 y1; have z2 : w2.cell? ⟨w.heap.size, 2, none⟩ = some (.int .i64 c) := kc hb2 y2; have z3 : w2.cell? ⟨w.heap.size, 3, none⟩ = some (.int .i64 d) := kc hb2 y3))
    | (go_at_call 10; ((with_reducible refine (hi _ ((hB1.trans (hb2.mono (by omega))).trans (hb3.mono (by omega)))).mono ?_); rintro e w4 ⟨rfl, hb4⟩; have hz4 := hb4.size))
    | go_in)
  all_goals refine bodyPost_ret (v := .bool true) (by simp [results, Tryd.results4, go_sem]) rfl ⟨rfl, ?_⟩
  all_goals exact ((hB1.trans (hb2.mono (by omega))).trans (hb3.mono (by omega))).trans (hb4.mono (by omega))
end Go.Proofs.YtefmglofnoinmaaDoor
