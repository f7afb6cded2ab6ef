/- The walks of the laws of chapter 2 on functions of one number, whatever their two contracts give. -/
import Derived.Test.YtefmglofnoinmaaDyA
import Derived.Deep.LoopGhost
namespace Go.Proofs.Ytefmglofnoinmaa
open Go.RowKit RM
set_option linter.unusedVariables false
set_option linter.unusedSimpArgs false
attribute [local irreducible] World.setCell

set_option maxRecDepth 100000 in
set_option maxHeartbeats 4000000 in
theorem lwIsValidDyadic (a b c d e : Int) (ok : Bool) (hS : ∀ w : World, Calls Try.prog 46 #[dy a b c d e] w fun ee w' => ee = .returned (.bool ok) ∧ Below w.heap.size w w') (hI : ∀ w : World, Calls Try.prog 37 #[dy a b c d e] w fun ee w' => ee = .returned (.bool ok) ∧ Below w.heap.size w w') (w : World) :
    Calls Try.prog 7 #[dy a b c d e] w fun ee w' => ee = .returned (.bool true) ∧ Below w.heap.size w w' := by
  have HS := hid hS
  have HI := hid hI
  clear hS hI
  go_enter Try.func7, Try.ntmps7
  go_wp2_with (first | (go_at_call 47; ((with_reducible refine (td _ _ _ _ _ _).mono ?_); rintro ee w3 ⟨rfl, hb3⟩; obtain ⟨hc3, hf3, _⟩ := bcell hb3; have hz3 := hb3.size; (try simp at hz3); (try have hx30 : w.heap.size < w3.heap.size := (by omega)); (try have hx31 : w.heap.size + 1 < w3.heap.size := (by omega)); (try have ho3w4 : w4.heap.size < w3.heap.size := (by omega)))) | (go_at_call 46; ((with_reducible refine (HS.out _).mono ?_); rintro ee w4 ⟨rfl, hb4⟩; obtain ⟨hc4, hf4, _⟩ := bcell hb4; have hz4 := hb4.size; (try simp at hz4); (try have hx40 : w.heap.size < w4.heap.size := (by omega)); (try have hx41 : w.heap.size + 1 < w4.heap.size := (by omega)))) | (go_at_call 37; ((with_reducible refine (HI.out _).mono ?_); rintro ee w5 ⟨rfl, hb5⟩; obtain ⟨hc5, hf5, _⟩ := bcell hb5; have hz5 := hb5.size; (try simp at hz5); (try have hx50 : w.heap.size < w5.heap.size := (by omega)); (try have hx51 : w.heap.size + 1 < w5.heap.size := (by omega)); (try have ho5w4 : w4.heap.size < w5.heap.size := (by omega)))) | (go_at_call 49; ((with_reducible refine (ed _ _ _ _ _ _).mono ?_); rintro ee w6 ⟨rfl, hb6⟩; obtain ⟨hc6, hf6, _⟩ := bcell hb6; have hz6 := hb6.size; (try simp at hz6); (try have hx60 : w.heap.size < w6.heap.size := (by omega)); (try have hx61 : w.heap.size + 1 < w6.heap.size := (by omega)))))
  go_ret
  refine ⟨rfl, ?_⟩
  repeat' (first | (with_reducible exact Below.refl _ _) | (with_reducible refine Below.alloc ?_ ?_ _) | (with_reducible refine Below.drew ?_) | (with_reducible refine Below.setCell ?_ ?_ _) | (with_reducible refine chain ?_ (by assumption) ?_) | omega | (simp; done) | (simp; omega))

set_option maxRecDepth 100000 in
set_option maxHeartbeats 4000000 in
theorem lwDyadicOf (a b c d e : Int) (r0 r1 r2 r3 r4 : Int) (ok : Bool) (hS : ∀ w : World, Calls Try.prog 35 #[rg a b c d, .int .i64 e] w fun ee w' => ee = .returned (dt r0 r1 r2 r3 r4 ok) ∧ Below w.heap.size w w') (hI : ∀ w : World, Calls Try.prog 34 #[rg a b c d, .int .i64 e] w fun ee w' => ee = .returned (dt r0 r1 r2 r3 r4 ok) ∧ Below w.heap.size w w') (w : World) :
    Calls Try.prog 8 #[rg a b c d, .int .i64 e] w fun ee w' => ee = .returned (.bool true) ∧ Below w.heap.size w w' := by
  have HS := hid hS
  have HI := hid hI
  clear hS hI
  go_enter Try.func8, Try.ntmps8
  go_wp2_with (first | (go_at_call 48; ((with_reducible refine (tr _ _ _ _ _).mono ?_); rintro ee w3 ⟨rfl, hb3⟩; obtain ⟨hc3, hf3, _⟩ := bcell hb3; have hz3 := hb3.size; (try simp at hz3); (try have hx30 : w.heap.size < w3.heap.size := (by omega)); (try have hx31 : w.heap.size + 1 < w3.heap.size := (by omega)); (try have ho3w4 : w4.heap.size < w3.heap.size := (by omega)))) | (go_at_call 35; ((with_reducible refine (HS.out _).mono ?_); rintro ee w4 ⟨rfl, hb4⟩; obtain ⟨hc4, hf4, _⟩ := bcell hb4; have hz4 := hb4.size; (try simp at hz4); (try have hx40 : w.heap.size < w4.heap.size := (by omega)); (try have hx41 : w.heap.size + 1 < w4.heap.size := (by omega)))) | (go_at_call 34; ((with_reducible refine (HI.out _).mono ?_); rintro ee w5 ⟨rfl, hb5⟩; obtain ⟨hc5, hf5, _⟩ := bcell hb5; have hz5 := hb5.size; (try simp at hz5); (try have hx50 : w.heap.size < w5.heap.size := (by omega)); (try have hx51 : w.heap.size + 1 < w5.heap.size := (by omega)); (try have ho5w4 : w4.heap.size < w5.heap.size := (by omega)))) | (go_at_call 49; ((with_reducible refine (ed _ _ _ _ _ _).mono ?_); rintro ee w6 ⟨rfl, hb6⟩; obtain ⟨hc6, hf6, _⟩ := bcell hb6; have hz6 := hb6.size; (try simp at hz6); (try have hx60 : w.heap.size < w6.heap.size := (by omega)); (try have hx61 : w.heap.size + 1 < w6.heap.size := (by omega)))))
  go_ret
  refine ⟨rfl, ?_⟩
  repeat' (first | (with_reducible exact Below.refl _ _) | (with_reducible refine Below.alloc ?_ ?_ _) | (with_reducible refine Below.drew ?_) | (with_reducible refine Below.setCell ?_ ?_ _) | (with_reducible refine chain ?_ (by assumption) ?_) | omega | (simp; done) | (simp; omega))

set_option maxRecDepth 100000 in
set_option maxHeartbeats 4000000 in
theorem lwConjDyadic (a b c d e : Int) (r0 r1 r2 r3 r4 : Int) (ok : Bool) (hS : ∀ w : World, Calls Try.prog 52 #[dy a b c d e] w fun ee w' => ee = .returned (dt r0 r1 r2 r3 r4 ok) ∧ Below w.heap.size w w') (hI : ∀ w : World, Calls Try.prog 53 #[dy a b c d e] w fun ee w' => ee = .returned (dt r0 r1 r2 r3 r4 ok) ∧ Below w.heap.size w w') (w : World) :
    Calls Try.prog 12 #[dy a b c d e] w fun ee w' => ee = .returned (.bool true) ∧ Below w.heap.size w w' := by
  have HS := hid hS
  have HI := hid hI
  clear hS hI
  go_enter Try.func12, Try.ntmps12
  go_wp2_with (first | (go_at_call 47; ((with_reducible refine (td _ _ _ _ _ _).mono ?_); rintro ee w3 ⟨rfl, hb3⟩; obtain ⟨hc3, hf3, _⟩ := bcell hb3; have hz3 := hb3.size; (try simp at hz3); (try have hx30 : w.heap.size < w3.heap.size := (by omega)); (try have hx31 : w.heap.size + 1 < w3.heap.size := (by omega)); (try have ho3w4 : w4.heap.size < w3.heap.size := (by omega)))) | (go_at_call 52; ((with_reducible refine (HS.out _).mono ?_); rintro ee w4 ⟨rfl, hb4⟩; obtain ⟨hc4, hf4, _⟩ := bcell hb4; have hz4 := hb4.size; (try simp at hz4); (try have hx40 : w.heap.size < w4.heap.size := (by omega)); (try have hx41 : w.heap.size + 1 < w4.heap.size := (by omega)))) | (go_at_call 53; ((with_reducible refine (HI.out _).mono ?_); rintro ee w5 ⟨rfl, hb5⟩; obtain ⟨hc5, hf5, _⟩ := bcell hb5; have hz5 := hb5.size; (try simp at hz5); (try have hx50 : w.heap.size < w5.heap.size := (by omega)); (try have hx51 : w.heap.size + 1 < w5.heap.size := (by omega)); (try have ho5w4 : w4.heap.size < w5.heap.size := (by omega)))) | (go_at_call 49; ((with_reducible refine (ed _ _ _ _ _ _).mono ?_); rintro ee w6 ⟨rfl, hb6⟩; obtain ⟨hc6, hf6, _⟩ := bcell hb6; have hz6 := hb6.size; (try simp at hz6); (try have hx60 : w.heap.size < w6.heap.size := (by omega)); (try have hx61 : w.heap.size + 1 < w6.heap.size := (by omega)))))
  go_ret
  refine ⟨rfl, ?_⟩
  repeat' (first | (with_reducible exact Below.refl _ _) | (with_reducible refine Below.alloc ?_ ?_ _) | (with_reducible refine Below.drew ?_) | (with_reducible refine Below.setCell ?_ ?_ _) | (with_reducible refine chain ?_ (by assumption) ?_) | omega | (simp; done) | (simp; omega))

set_option maxRecDepth 100000 in
set_option maxHeartbeats 4000000 in
theorem lwNormSquare (a b c d e : Int) (r0 r1 r2 r3 r4 : Int) (ok : Bool) (hS : ∀ w : World, Calls Try.prog 56 #[dy a b c d e] w fun ee w' => ee = .returned (dt r0 r1 r2 r3 r4 ok) ∧ Below w.heap.size w w') (hI : ∀ w : World, Calls Try.prog 57 #[dy a b c d e] w fun ee w' => ee = .returned (dt r0 r1 r2 r3 r4 ok) ∧ Below w.heap.size w w') (w : World) :
    Calls Try.prog 14 #[dy a b c d e] w fun ee w' => ee = .returned (.bool true) ∧ Below w.heap.size w w' := by
  have HS := hid hS
  have HI := hid hI
  clear hS hI
  go_enter Try.func14, Try.ntmps14
  go_wp2_with (first | (go_at_call 47; ((with_reducible refine (td _ _ _ _ _ _).mono ?_); rintro ee w3 ⟨rfl, hb3⟩; obtain ⟨hc3, hf3, _⟩ := bcell hb3; have hz3 := hb3.size; (try simp at hz3); (try have hx30 : w.heap.size < w3.heap.size := (by omega)); (try have hx31 : w.heap.size + 1 < w3.heap.size := (by omega)); (try have ho3w4 : w4.heap.size < w3.heap.size := (by omega)))) | (go_at_call 56; ((with_reducible refine (HS.out _).mono ?_); rintro ee w4 ⟨rfl, hb4⟩; obtain ⟨hc4, hf4, _⟩ := bcell hb4; have hz4 := hb4.size; (try simp at hz4); (try have hx40 : w.heap.size < w4.heap.size := (by omega)); (try have hx41 : w.heap.size + 1 < w4.heap.size := (by omega)))) | (go_at_call 57; ((with_reducible refine (HI.out _).mono ?_); rintro ee w5 ⟨rfl, hb5⟩; obtain ⟨hc5, hf5, _⟩ := bcell hb5; have hz5 := hb5.size; (try simp at hz5); (try have hx50 : w.heap.size < w5.heap.size := (by omega)); (try have hx51 : w.heap.size + 1 < w5.heap.size := (by omega)); (try have ho5w4 : w4.heap.size < w5.heap.size := (by omega)))) | (go_at_call 49; ((with_reducible refine (ed _ _ _ _ _ _).mono ?_); rintro ee w6 ⟨rfl, hb6⟩; obtain ⟨hc6, hf6, _⟩ := bcell hb6; have hz6 := hb6.size; (try simp at hz6); (try have hx60 : w.heap.size < w6.heap.size := (by omega)); (try have hx61 : w.heap.size + 1 < w6.heap.size := (by omega)))))
  go_ret
  refine ⟨rfl, ?_⟩
  repeat' (first | (with_reducible exact Below.refl _ _) | (with_reducible refine Below.alloc ?_ ?_ _) | (with_reducible refine Below.drew ?_) | (with_reducible refine Below.setCell ?_ ?_ _) | (with_reducible refine chain ?_ (by assumption) ?_) | omega | (simp; done) | (simp; omega))

set_option maxRecDepth 100000 in
set_option maxHeartbeats 4000000 in
theorem lwPhaseOf (a b c d e : Int) (u : Int) (ok : Bool) (hS : ∀ w : World, Calls Try.prog 54 #[dy a b c d e] w fun ee w' => ee = .returned (.tuple #[.int .i64 u, .bool ok]) ∧ Below w.heap.size w w') (hI : ∀ w : World, Calls Try.prog 55 #[dy a b c d e] w fun ee w' => ee = .returned (.tuple #[.int .i64 u, .bool ok]) ∧ Below w.heap.size w w') (w : World) :
    Calls Try.prog 13 #[dy a b c d e] w fun ee w' => ee = .returned (.bool true) ∧ Below w.heap.size w w' := by
  have HS := hid hS
  have HI := hid hI
  clear hS hI
  go_enter Try.func13, Try.ntmps13
  go_wp2_with (first | (go_at_call 47; ((with_reducible refine (td _ _ _ _ _ _).mono ?_); rintro ee w3 ⟨rfl, hb3⟩; obtain ⟨hc3, hf3, _⟩ := bcell hb3; have hz3 := hb3.size; (try simp at hz3); (try have hx30 : w.heap.size < w3.heap.size := (by omega)); (try have hx31 : w.heap.size + 1 < w3.heap.size := (by omega)); (try have ho3w4 : w4.heap.size < w3.heap.size := (by omega)))) | (go_at_call 54; ((with_reducible refine (HS.out _).mono ?_); rintro ee w4 ⟨rfl, hb4⟩; obtain ⟨hc4, hf4, _⟩ := bcell hb4; have hz4 := hb4.size; (try simp at hz4); (try have hx40 : w.heap.size < w4.heap.size := (by omega)); (try have hx41 : w.heap.size + 1 < w4.heap.size := (by omega)))) | (go_at_call 55; ((with_reducible refine (HI.out _).mono ?_); rintro ee w5 ⟨rfl, hb5⟩; obtain ⟨hc5, hf5, _⟩ := bcell hb5; have hz5 := hb5.size; (try simp at hz5); (try have hx50 : w.heap.size < w5.heap.size := (by omega)); (try have hx51 : w.heap.size + 1 < w5.heap.size := (by omega)); (try have ho5w4 : w4.heap.size < w5.heap.size := (by omega)))) | (go_at_call 49; ((with_reducible refine (ed _ _ _ _ _ _).mono ?_); rintro ee w6 ⟨rfl, hb6⟩; obtain ⟨hc6, hf6, _⟩ := bcell hb6; have hz6 := hb6.size; (try simp at hz6); (try have hx60 : w.heap.size < w6.heap.size := (by omega)); (try have hx61 : w.heap.size + 1 < w6.heap.size := (by omega)))))
  go_ret
  refine ⟨rfl, ?_⟩
  repeat' (first | (with_reducible exact Below.refl _ _) | (with_reducible refine Below.alloc ?_ ?_ _) | (with_reducible refine Below.drew ?_) | (with_reducible refine Below.setCell ?_ ?_ _) | (with_reducible refine chain ?_ (by assumption) ?_) | omega | (simp; done) | (simp; omega))

set_option maxRecDepth 100000 in
set_option maxHeartbeats 4000000 in
theorem lwRealSign (u v : Int) (n : Int) (ok : Bool) (hS : ∀ w : World, Calls Try.prog 58 #[.int .i64 u, .int .i64 v] w fun ee w' => ee = .returned (.tuple #[.int .i64 n, .bool ok]) ∧ Below w.heap.size w w') (hI : ∀ w : World, Calls Try.prog 59 #[.int .i64 u, .int .i64 v] w fun ee w' => ee = .returned (.tuple #[.int .i64 n, .bool ok]) ∧ Below w.heap.size w w') (w : World) :
    Calls Try.prog 15 #[.int .i64 u, .int .i64 v] w fun ee w' => ee = .returned (.bool true) ∧ Below w.heap.size w w' := by
  have HS := hid hS
  have HI := hid hI
  clear hS hI
  go_enter Try.func15, Try.ntmps15
  go_wp2_with (first | (go_at_call 58; ((with_reducible refine (HS.out _).mono ?_); rintro ee w4 ⟨rfl, hb4⟩; obtain ⟨hc4, hf4, _⟩ := bcell hb4; have hz4 := hb4.size; (try simp at hz4); (try have hx40 : w.heap.size < w4.heap.size := (by omega)); (try have hx41 : w.heap.size + 1 < w4.heap.size := (by omega)))) | (go_at_call 59; ((with_reducible refine (HI.out _).mono ?_); rintro ee w5 ⟨rfl, hb5⟩; obtain ⟨hc5, hf5, _⟩ := bcell hb5; have hz5 := hb5.size; (try simp at hz5); (try have hx50 : w.heap.size < w5.heap.size := (by omega)); (try have hx51 : w.heap.size + 1 < w5.heap.size := (by omega)); (try have ho5w4 : w4.heap.size < w5.heap.size := (by omega)))) | (go_at_call 49; ((with_reducible refine (ed _ _ _ _ _ _).mono ?_); rintro ee w6 ⟨rfl, hb6⟩; obtain ⟨hc6, hf6, _⟩ := bcell hb6; have hz6 := hb6.size; (try simp at hz6); (try have hx60 : w.heap.size < w6.heap.size := (by omega)); (try have hx61 : w.heap.size + 1 < w6.heap.size := (by omega)))))
  go_ret
  refine ⟨rfl, ?_⟩
  repeat' (first | (with_reducible exact Below.refl _ _) | (with_reducible refine Below.alloc ?_ ?_ _) | (with_reducible refine Below.drew ?_) | (with_reducible refine Below.setCell ?_ ?_ _) | (with_reducible refine chain ?_ (by assumption) ?_) | omega | (simp; done) | (simp; omega))
end Go.Proofs.Ytefmglofnoinmaa
