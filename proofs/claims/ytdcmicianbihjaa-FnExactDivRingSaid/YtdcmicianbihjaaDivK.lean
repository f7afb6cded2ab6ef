/- Contracts of the model of DivRing (first part). -/
import Derived.Test.YtdcmicianbihjaaNorm
import Derived.Test.YtdcmicianbihjaaDivEx
import Derived.Test.YtdcmicianbihjaaHeld
import Derived.Test.YtdcmicianbihjaaHeldB
import Derived.Deep.RegionHeld3
import Derived.Deep.MidRow
import Derived.Deep.DeepCutAuto
import Derived.RegionTactic
import Derived.BigRegion
namespace Go.Proofs.Ytdcmicianbihjaa
open Go.RowKit RM
set_option linter.unusedVariables false
set_option linter.unusedSimpArgs false

set_option maxRecDepth 100000 in
set_option maxHeartbeats 1000000 in
theorem lc (p q r s : Int) (w : World) (hy : vr p q r s = true) :
    Calls Try.prog 63 #[rg p q r s] w fun e w' => e = .returned (rg p (-s) (-r) (-q)) ∧ Below w.heap.size w w' := by
  obtain ⟨⟨p1, p2⟩, ⟨q1, q2⟩, ⟨r1, r2⟩, ⟨s1, s2⟩⟩ := vr_iff.1 hy
  have HY := hid hy
  clear hy
  go_enter Try.func63, Try.ntmps63
  go_wp2_with (first | go_in)
  refine bodyPost_ret (v := rg p (-s) (-r) (-q)) (by first | (simp [results, Try.results63, go_sem, *]; done) | (simp (disch := (first | omega | (simp; done) | (simp; omega))) [results, Try.results63, go_sem, *]; done) | (simp only [results, Try.results63]; go_simp; done)) rfl ⟨rfl, ?_⟩
  repeat' (first | (with_reducible exact Below.refl _ _) | (with_reducible refine Below.alloc ?_ ?_ _) | (with_reducible refine Below.drew ?_) | (with_reducible refine Below.setCell ?_ ?_ _) | (with_reducible refine chain ?_ (by assumption) ?_) | omega | (simp; done) | (simp; omega))

/-- behind the first product of the model of DivRing: the product in a new block; the result's block is untouched -/
structure CutD (w : World) (e0 e1 e2 e3 : Int) (ok : Bool) (s9 s10 : Value) (W : World) : Prop where
  sl : ∃ g, s9 = .pointer (some ⟨g, 0, none⟩) ∧ W.cell? ⟨g, 0, none⟩ = some (.int .i64 e0) ∧ W.cell? ⟨g, 1, none⟩ = some (.int .i64 e1) ∧ W.cell? ⟨g, 2, none⟩ = some (.int .i64 e2) ∧ W.cell? ⟨g, 3, none⟩ = some (.int .i64 e3)
  ss : s10 = .bool ok
  zc : W.cell? ⟨w.heap.size + 1 + 1, 0, none⟩ = some (.int .i64 0) ∧ W.cell? ⟨w.heap.size + 1 + 1, 1, none⟩ = some (.int .i64 0) ∧ W.cell? ⟨w.heap.size + 1 + 1, 2, none⟩ = some (.int .i64 0) ∧ W.cell? ⟨w.heap.size + 1 + 1, 3, none⟩ = some (.int .i64 0)
  zf : W.frozen? ⟨w.heap.size + 1 + 1, 0, none⟩ = false ∧ W.frozen? ⟨w.heap.size + 1 + 1, 1, none⟩ = false ∧ W.frozen? ⟨w.heap.size + 1 + 1, 2, none⟩ = false ∧ W.frozen? ⟨w.heap.size + 1 + 1, 3, none⟩ = false
  bel : Below w.heap.size w W
theorem zf_of {w0 W' : World} {k : Nat} (hk : k < w0.heap.size) (h : w0.frozen? ⟨k, 0, none⟩ = false ∧ w0.frozen? ⟨k, 1, none⟩ = false ∧ w0.frozen? ⟨k, 2, none⟩ = false ∧ w0.frozen? ⟨k, 3, none⟩ = false) (hb : Below w0.heap.size w0 W') :
    W'.frozen? ⟨k, 0, none⟩ = false ∧ W'.frozen? ⟨k, 1, none⟩ = false ∧ W'.frozen? ⟨k, 2, none⟩ = false ∧ W'.frozen? ⟨k, 3, none⟩ = false := by
  obtain ⟨h0, h1, h2, h3⟩ := h
  obtain ⟨_, hf, _⟩ := bcell hb
  exact ⟨(hf _ _ hk).trans h0, (hf _ _ hk).trans h1, (hf _ _ hk).trans h2, (hf _ _ hk).trans h3⟩

set_option maxRecDepth 100000 in
set_option maxHeartbeats 4000000 in
theorem div_s_0 (a b c d p q r s : Int) (w : World) (ha : ∀ w : World, Calls Try.prog 46 #[rg p q r s] w fun e w' => e = .returned (.tuple #[.int .i64 0, .int .i64 0, .bool false]) ∧ Below w.heap.size w w') :
    Calls Try.prog 47 #[rg a b c d, rg p q r s] w fun e w' => e = .returned (rt 0 0 0 0 false) ∧ Below w.heap.size w w' := by
  have HA := hid ha
  clear ha
  go_enter Try.func47, Try.ntmps47
  go_wp2_with (first | (go_at_call 46; ((with_reducible refine (HA.out _).mono ?_); rintro e w1 ⟨rfl, hb1⟩; obtain ⟨hc1, hf1, _⟩ := bcell hb1; have hz1 := hb1.size; (try simp at hz1); (try have hx10 : w.heap.size < w1.heap.size := (by omega)); (try have hx11 : w.heap.size + 1 < w1.heap.size := (by omega)); (try have hx12 : w.heap.size + 1 + 1 < w1.heap.size := (by omega)); (try have hx13 : w.heap.size + 1 + 1 + 1 < w1.heap.size := (by omega)))) | go_in)
  refine bodyPost_ret (v := rt 0 0 0 0 false) (by first | (simp [results, Try.results47, go_sem, *]; done) | (simp (disch := (first | omega | (simp; done) | (simp; omega))) [results, Try.results47, go_sem, *]; done) | (simp only [results, Try.results47]; go_simp; done)) rfl ⟨rfl, ?_⟩
  repeat' (first | (with_reducible exact Below.refl _ _) | (with_reducible refine Below.alloc ?_ ?_ _) | (with_reducible refine Below.drew ?_) | (with_reducible refine Below.setCell ?_ ?_ _) | (with_reducible refine chain ?_ (by assumption) ?_) | omega | (simp; done) | (simp; omega))

set_option maxRecDepth 100000 in
set_option maxHeartbeats 4000000 in
theorem div_s_1 (a b c d p q r s v : Int) (w : World) (ha : ∀ w : World, Calls Try.prog 46 #[rg p q r s] w fun e w' => e = .returned (.tuple #[.int .i64 0, .int .i64 v, .bool true]) ∧ Below w.heap.size w w') :
    Calls Try.prog 47 #[rg a b c d, rg p q r s] w fun e w' => e = .returned (rt 0 0 0 0 false) ∧ Below w.heap.size w w' := by
  have HA := hid ha
  clear ha
  go_enter Try.func47, Try.ntmps47
  go_wp2_with (first | (go_at_call 46; ((with_reducible refine (HA.out _).mono ?_); rintro e w1 ⟨rfl, hb1⟩; obtain ⟨hc1, hf1, _⟩ := bcell hb1; have hz1 := hb1.size; (try simp at hz1); (try have hx10 : w.heap.size < w1.heap.size := (by omega)); (try have hx11 : w.heap.size + 1 < w1.heap.size := (by omega)); (try have hx12 : w.heap.size + 1 + 1 < w1.heap.size := (by omega)); (try have hx13 : w.heap.size + 1 + 1 + 1 < w1.heap.size := (by omega)))) | go_in)
  refine bodyPost_ret (v := rt 0 0 0 0 false) (by first | (simp [results, Try.results47, go_sem, *]; done) | (simp (disch := (first | omega | (simp; done) | (simp; omega))) [results, Try.results47, go_sem, *]; done) | (simp only [results, Try.results47]; go_simp; done)) rfl ⟨rfl, ?_⟩
  repeat' (first | (with_reducible exact Below.refl _ _) | (with_reducible refine Below.alloc ?_ ?_ _) | (with_reducible refine Below.drew ?_) | (with_reducible refine Below.setCell ?_ ?_ _) | (with_reducible refine chain ?_ (by assumption) ?_) | omega | (simp; done) | (simp; omega))
end Go.Proofs.Ytdcmicianbihjaa
