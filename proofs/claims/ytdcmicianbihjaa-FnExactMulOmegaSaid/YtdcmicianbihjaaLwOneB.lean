/- The walks of the laws on functions of one number, whatever their two contracts give (second part). -/
import Derived.Test.YtdcmicianbihjaaLawHelp
namespace Go.Proofs.Ytdcmicianbihjaa
open Go.RowKit RM
set_option linter.unusedVariables false
set_option linter.unusedSimpArgs false

set_option maxRecDepth 100000 in
set_option maxHeartbeats 4000000 in
theorem lwDivRootTwo (a b c d : Int) (r0 r1 r2 r3 : Int) (ok : Bool) (hS : ∀ w : World, Calls Try.prog 45 #[rg a b c d] w fun e w' => e = .returned (rt r0 r1 r2 r3 ok) ∧ Below w.heap.size w w') (hI : ∀ w : World, Calls Try.prog 30 #[rg a b c d] w fun e w' => e = .returned (rt r0 r1 r2 r3 ok) ∧ Below w.heap.size w w') (w : World) :
    Calls Try.prog 13 #[rg a b c d] w fun e w' => e = .returned (.bool true) ∧ Below w.heap.size w w' := by
  have HS := hid hS
  have HI := hid hI
  clear hS hI
  go_enter Try.func13, Try.ntmps13
  go_wp2_with (first | (go_at_call 34; ((with_reducible refine (tr _ _ _ _ _).mono ?_); rintro e w3 ⟨rfl, hb3⟩; obtain ⟨hc3, hf3, _⟩ := bcell hb3; have hz3 := hb3.size; (try simp at hz3); (try have hx30 : w.heap.size < w3.heap.size := (by omega)); (try have hx31 : w.heap.size + 1 < w3.heap.size := (by omega)); (try have ho3w4 : w4.heap.size < w3.heap.size := (by omega)))) | (go_at_call 45; ((with_reducible refine (HS.out _).mono ?_); rintro e w4 ⟨rfl, hb4⟩; obtain ⟨hc4, hf4, _⟩ := bcell hb4; have hz4 := hb4.size; (try simp at hz4); (try have hx40 : w.heap.size < w4.heap.size := (by omega)); (try have hx41 : w.heap.size + 1 < w4.heap.size := (by omega)))) | (go_at_call 30; ((with_reducible refine (HI.out _).mono ?_); rintro e w5 ⟨rfl, hb5⟩; obtain ⟨hc5, hf5, _⟩ := bcell hb5; have hz5 := hb5.size; (try simp at hz5); (try have hx50 : w.heap.size < w5.heap.size := (by omega)); (try have hx51 : w.heap.size + 1 < w5.heap.size := (by omega)); (try have ho5w4 : w4.heap.size < w5.heap.size := (by omega)))) | (go_at_call 37; ((with_reducible refine (er _ _ _ _ _).mono ?_); rintro e w6 ⟨rfl, hb6⟩; obtain ⟨hc6, hf6, _⟩ := bcell hb6; have hz6 := hb6.size; (try simp at hz6); (try have hx60 : w.heap.size < w6.heap.size := (by omega)); (try have hx61 : w.heap.size + 1 < w6.heap.size := (by omega)))))
  go_ret
  refine ⟨rfl, ?_⟩
  repeat' (first | (with_reducible exact Below.refl _ _) | (with_reducible refine Below.alloc ?_ ?_ _) | (with_reducible refine Below.drew ?_) | (with_reducible refine Below.setCell ?_ ?_ _) | (with_reducible refine chain ?_ (by assumption) ?_) | omega | (simp; done) | (simp; omega))

set_option maxRecDepth 100000 in
set_option maxHeartbeats 4000000 in
theorem lwMulOmega (a b c d k : Int) (r0 r1 r2 r3 : Int) (ok : Bool) (hS : ∀ w : World, Calls Try.prog 42 #[rg a b c d, .int .i64 k] w fun e w' => e = .returned (rt r0 r1 r2 r3 ok) ∧ Below w.heap.size w w') (hI : ∀ w : World, Calls Try.prog 43 #[rg a b c d, .int .i64 k] w fun e w' => e = .returned (rt r0 r1 r2 r3 ok) ∧ Below w.heap.size w w') (w : World) :
    Calls Try.prog 11 #[rg a b c d, .int .i64 k] w fun e w' => e = .returned (.bool true) ∧ Below w.heap.size w w' := by
  have HS := hid hS
  have HI := hid hI
  clear hS hI
  go_enter Try.func11, Try.ntmps11
  go_wp2_with (first | (go_at_call 34; ((with_reducible refine (tr _ _ _ _ _).mono ?_); rintro e w3 ⟨rfl, hb3⟩; obtain ⟨hc3, hf3, _⟩ := bcell hb3; have hz3 := hb3.size; (try simp at hz3); (try have hx30 : w.heap.size < w3.heap.size := (by omega)); (try have hx31 : w.heap.size + 1 < w3.heap.size := (by omega)); (try have ho3w4 : w4.heap.size < w3.heap.size := (by omega)))) | (go_at_call 42; ((with_reducible refine (HS.out _).mono ?_); rintro e w4 ⟨rfl, hb4⟩; obtain ⟨hc4, hf4, _⟩ := bcell hb4; have hz4 := hb4.size; (try simp at hz4); (try have hx40 : w.heap.size < w4.heap.size := (by omega)); (try have hx41 : w.heap.size + 1 < w4.heap.size := (by omega)))) | (go_at_call 43; ((with_reducible refine (HI.out _).mono ?_); rintro e w5 ⟨rfl, hb5⟩; obtain ⟨hc5, hf5, _⟩ := bcell hb5; have hz5 := hb5.size; (try simp at hz5); (try have hx50 : w.heap.size < w5.heap.size := (by omega)); (try have hx51 : w.heap.size + 1 < w5.heap.size := (by omega)); (try have ho5w4 : w4.heap.size < w5.heap.size := (by omega)))) | (go_at_call 37; ((with_reducible refine (er _ _ _ _ _).mono ?_); rintro e w6 ⟨rfl, hb6⟩; obtain ⟨hc6, hf6, _⟩ := bcell hb6; have hz6 := hb6.size; (try simp at hz6); (try have hx60 : w.heap.size < w6.heap.size := (by omega)); (try have hx61 : w.heap.size + 1 < w6.heap.size := (by omega)))))
  go_ret
  refine ⟨rfl, ?_⟩
  repeat' (first | (with_reducible exact Below.refl _ _) | (with_reducible refine Below.alloc ?_ ?_ _) | (with_reducible refine Below.drew ?_) | (with_reducible refine Below.setCell ?_ ?_ _) | (with_reducible refine chain ?_ (by assumption) ?_) | omega | (simp; done) | (simp; omega))

set_option maxRecDepth 100000 in
set_option maxHeartbeats 4000000 in
theorem lwAbsSquare (a b c d : Int) (u v : Int) (ok : Bool) (hS : ∀ w : World, Calls Try.prog 46 #[rg a b c d] w fun e w' => e = .returned (.tuple #[.int .i64 u, .int .i64 v, .bool ok]) ∧ Below w.heap.size w w') (hI : ∀ w : World, Calls Try.prog 26 #[rg a b c d] w fun e w' => e = .returned (.tuple #[.int .i64 u, .int .i64 v, .bool ok]) ∧ Below w.heap.size w w') (w : World) :
    Calls Try.prog 14 #[rg a b c d] w fun e w' => e = .returned (.bool true) ∧ Below w.heap.size w w' := by
  have HS := hid hS
  have HI := hid hI
  clear hS hI
  go_enter Try.func14, Try.ntmps14
  go_wp2_with (first | (go_at_call 34; ((with_reducible refine (tr _ _ _ _ _).mono ?_); rintro e w3 ⟨rfl, hb3⟩; obtain ⟨hc3, hf3, _⟩ := bcell hb3; have hz3 := hb3.size; (try simp at hz3); (try have hx30 : w.heap.size < w3.heap.size := (by omega)); (try have hx31 : w.heap.size + 1 < w3.heap.size := (by omega)); (try have ho3w4 : w4.heap.size < w3.heap.size := (by omega)))) | (go_at_call 46; ((with_reducible refine (HS.out _).mono ?_); rintro e w4 ⟨rfl, hb4⟩; obtain ⟨hc4, hf4, _⟩ := bcell hb4; have hz4 := hb4.size; (try simp at hz4); (try have hx40 : w.heap.size < w4.heap.size := (by omega)); (try have hx41 : w.heap.size + 1 < w4.heap.size := (by omega)))) | (go_at_call 26; ((with_reducible refine (HI.out _).mono ?_); rintro e w5 ⟨rfl, hb5⟩; obtain ⟨hc5, hf5, _⟩ := bcell hb5; have hz5 := hb5.size; (try simp at hz5); (try have hx50 : w.heap.size < w5.heap.size := (by omega)); (try have hx51 : w.heap.size + 1 < w5.heap.size := (by omega)); (try have ho5w4 : w4.heap.size < w5.heap.size := (by omega)))) | (go_at_call 37; ((with_reducible refine (er _ _ _ _ _).mono ?_); rintro e w6 ⟨rfl, hb6⟩; obtain ⟨hc6, hf6, _⟩ := bcell hb6; have hz6 := hb6.size; (try simp at hz6); (try have hx60 : w.heap.size < w6.heap.size := (by omega)); (try have hx61 : w.heap.size + 1 < w6.heap.size := (by omega)))))
  go_ret
  refine ⟨rfl, ?_⟩
  repeat' (first | (with_reducible exact Below.refl _ _) | (with_reducible refine Below.alloc ?_ ?_ _) | (with_reducible refine Below.drew ?_) | (with_reducible refine Below.setCell ?_ ?_ _) | (with_reducible refine chain ?_ (by assumption) ?_) | omega | (simp; done) | (simp; omega))

set_option maxRecDepth 100000 in
set_option maxHeartbeats 4000000 in
theorem lwNormOf (a b c d : Int) (u : Int) (ok : Bool) (hS : ∀ w : World, Calls Try.prog 32 #[rg a b c d] w fun e w' => e = .returned (.tuple #[.int .i64 u, .bool ok]) ∧ Below w.heap.size w w') (hI : ∀ w : World, Calls Try.prog 31 #[rg a b c d] w fun e w' => e = .returned (.tuple #[.int .i64 u, .bool ok]) ∧ Below w.heap.size w w') (w : World) :
    Calls Try.prog 15 #[rg a b c d] w fun e w' => e = .returned (.bool true) ∧ Below w.heap.size w w' := by
  have HS := hid hS
  have HI := hid hI
  clear hS hI
  go_enter Try.func15, Try.ntmps15
  go_wp2_with (first | (go_at_call 34; ((with_reducible refine (tr _ _ _ _ _).mono ?_); rintro e w3 ⟨rfl, hb3⟩; obtain ⟨hc3, hf3, _⟩ := bcell hb3; have hz3 := hb3.size; (try simp at hz3); (try have hx30 : w.heap.size < w3.heap.size := (by omega)); (try have hx31 : w.heap.size + 1 < w3.heap.size := (by omega)); (try have ho3w4 : w4.heap.size < w3.heap.size := (by omega)))) | (go_at_call 32; ((with_reducible refine (HS.out _).mono ?_); rintro e w4 ⟨rfl, hb4⟩; obtain ⟨hc4, hf4, _⟩ := bcell hb4; have hz4 := hb4.size; (try simp at hz4); (try have hx40 : w.heap.size < w4.heap.size := (by omega)); (try have hx41 : w.heap.size + 1 < w4.heap.size := (by omega)))) | (go_at_call 31; ((with_reducible refine (HI.out _).mono ?_); rintro e w5 ⟨rfl, hb5⟩; obtain ⟨hc5, hf5, _⟩ := bcell hb5; have hz5 := hb5.size; (try simp at hz5); (try have hx50 : w.heap.size < w5.heap.size := (by omega)); (try have hx51 : w.heap.size + 1 < w5.heap.size := (by omega)); (try have ho5w4 : w4.heap.size < w5.heap.size := (by omega)))) | (go_at_call 37; ((with_reducible refine (er _ _ _ _ _).mono ?_); rintro e w6 ⟨rfl, hb6⟩; obtain ⟨hc6, hf6, _⟩ := bcell hb6; have hz6 := hb6.size; (try simp at hz6); (try have hx60 : w.heap.size < w6.heap.size := (by omega)); (try have hx61 : w.heap.size + 1 < w6.heap.size := (by omega)))))
  go_ret
  refine ⟨rfl, ?_⟩
  repeat' (first | (with_reducible exact Below.refl _ _) | (with_reducible refine Below.alloc ?_ ?_ _) | (with_reducible refine Below.drew ?_) | (with_reducible refine Below.setCell ?_ ?_ _) | (with_reducible refine chain ?_ (by assumption) ?_) | omega | (simp; done) | (simp; omega))
end Go.Proofs.Ytdcmicianbihjaa
