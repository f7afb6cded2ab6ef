/- TurnS -/
import Derived.Test.YtgcligmpdlffoaaZp1
namespace Go.Proofs.Ytgcligmpdlffoaa
open Go.RowKit RM
set_option linter.unusedVariables false
set_option linter.unusedSimpArgs false

set_option maxRecDepth 100000 in
set_option maxHeartbeats 2000000 in
theorem tn_0 (a b c d k : Int) (w : World) (t1 : -7 ≤ k.tmod 8) (t2 : k.tmod 8 ≤ 7) (t3 : (k.tmod 8 + 8) % 8 = 0) (t4 : (k.tmod 8 + 8).tmod 8 = 0) (hx : vr a b c d = true) :
    Calls Try.prog 162 #[rg a b c d, .int .i64 k] w fun e w' => e = .returned (rg a b c d) ∧ Below w.heap.size w w' := by
  obtain ⟨⟨a1, a2⟩, ⟨b1, b2⟩, ⟨c1, c2⟩, ⟨d1, d2⟩⟩ := vr_iff.1 hx
  have HX := hid hx
  clear hx
  go_enter Try.func162, Try.ntmps162
  go_wp2_with (first | go_in)
  go_rounds 1
  refine bodyPost_ret (v := rg a b c d) (by simp [results, Try.results162, go_sem, *]) rfl ⟨rfl, ?_⟩
  repeat' (first | (with_reducible exact Below.refl _ _) | (with_reducible refine Below.alloc ?_ ?_ _) | (with_reducible refine Below.drew ?_) | (with_reducible refine Below.setCell ?_ ?_ _) | (with_reducible refine chain ?_ (by assumption) ?_) | omega | (simp; done) | (simp; omega))

set_option maxRecDepth 100000 in
set_option maxHeartbeats 2000000 in
theorem tn_1 (a b c d k : Int) (w : World) (t1 : -7 ≤ k.tmod 8) (t2 : k.tmod 8 ≤ 7) (t3 : (k.tmod 8 + 8) % 8 = 1) (t4 : (k.tmod 8 + 8).tmod 8 = 1) (hx : vr a b c d = true) :
    Calls Try.prog 162 #[rg a b c d, .int .i64 k] w fun e w' => e = .returned (rg (-d) a b c) ∧ Below w.heap.size w w' := by
  obtain ⟨⟨a1, a2⟩, ⟨b1, b2⟩, ⟨c1, c2⟩, ⟨d1, d2⟩⟩ := vr_iff.1 hx
  have HX := hid hx
  clear hx
  go_enter Try.func162, Try.ntmps162
  go_wp2_with (first | go_in)
  go_rounds 2
  refine bodyPost_ret (v := rg (-d) a b c) (by simp [results, Try.results162, go_sem, *]) rfl ⟨rfl, ?_⟩
  repeat' (first | (with_reducible exact Below.refl _ _) | (with_reducible refine Below.alloc ?_ ?_ _) | (with_reducible refine Below.drew ?_) | (with_reducible refine Below.setCell ?_ ?_ _) | (with_reducible refine chain ?_ (by assumption) ?_) | omega | (simp; done) | (simp; omega))

set_option maxRecDepth 100000 in
set_option maxHeartbeats 2000000 in
theorem tn_2 (a b c d k : Int) (w : World) (t1 : -7 ≤ k.tmod 8) (t2 : k.tmod 8 ≤ 7) (t3 : (k.tmod 8 + 8) % 8 = 2) (t4 : (k.tmod 8 + 8).tmod 8 = 2) (hx : vr a b c d = true) :
    Calls Try.prog 162 #[rg a b c d, .int .i64 k] w fun e w' => e = .returned (rg (-c) (-d) a b) ∧ Below w.heap.size w w' := by
  obtain ⟨⟨a1, a2⟩, ⟨b1, b2⟩, ⟨c1, c2⟩, ⟨d1, d2⟩⟩ := vr_iff.1 hx
  have HX := hid hx
  clear hx
  go_enter Try.func162, Try.ntmps162
  go_wp2_with (first | go_in)
  go_rounds 3
  refine bodyPost_ret (v := rg (-c) (-d) a b) (by simp [results, Try.results162, go_sem, *]) rfl ⟨rfl, ?_⟩
  repeat' (first | (with_reducible exact Below.refl _ _) | (with_reducible refine Below.alloc ?_ ?_ _) | (with_reducible refine Below.drew ?_) | (with_reducible refine Below.setCell ?_ ?_ _) | (with_reducible refine chain ?_ (by assumption) ?_) | omega | (simp; done) | (simp; omega))

set_option maxRecDepth 100000 in
set_option maxHeartbeats 2000000 in
theorem tn_3 (a b c d k : Int) (w : World) (t1 : -7 ≤ k.tmod 8) (t2 : k.tmod 8 ≤ 7) (t3 : (k.tmod 8 + 8) % 8 = 3) (t4 : (k.tmod 8 + 8).tmod 8 = 3) (hx : vr a b c d = true) :
    Calls Try.prog 162 #[rg a b c d, .int .i64 k] w fun e w' => e = .returned (rg (-b) (-c) (-d) a) ∧ Below w.heap.size w w' := by
  obtain ⟨⟨a1, a2⟩, ⟨b1, b2⟩, ⟨c1, c2⟩, ⟨d1, d2⟩⟩ := vr_iff.1 hx
  have HX := hid hx
  clear hx
  go_enter Try.func162, Try.ntmps162
  go_wp2_with (first | go_in)
  go_rounds 4
  refine bodyPost_ret (v := rg (-b) (-c) (-d) a) (by simp [results, Try.results162, go_sem, *]) rfl ⟨rfl, ?_⟩
  repeat' (first | (with_reducible exact Below.refl _ _) | (with_reducible refine Below.alloc ?_ ?_ _) | (with_reducible refine Below.drew ?_) | (with_reducible refine Below.setCell ?_ ?_ _) | (with_reducible refine chain ?_ (by assumption) ?_) | omega | (simp; done) | (simp; omega))

set_option maxRecDepth 100000 in
set_option maxHeartbeats 2000000 in
theorem tn_4 (a b c d k : Int) (w : World) (t1 : -7 ≤ k.tmod 8) (t2 : k.tmod 8 ≤ 7) (t3 : (k.tmod 8 + 8) % 8 = 4) (t4 : (k.tmod 8 + 8).tmod 8 = 4) (hx : vr a b c d = true) :
    Calls Try.prog 162 #[rg a b c d, .int .i64 k] w fun e w' => e = .returned (rg (-a) (-b) (-c) (-d)) ∧ Below w.heap.size w w' := by
  obtain ⟨⟨a1, a2⟩, ⟨b1, b2⟩, ⟨c1, c2⟩, ⟨d1, d2⟩⟩ := vr_iff.1 hx
  have HX := hid hx
  clear hx
  go_enter Try.func162, Try.ntmps162
  go_wp2_with (first | go_in)
  go_rounds 5
  refine bodyPost_ret (v := rg (-a) (-b) (-c) (-d)) (by simp [results, Try.results162, go_sem, *]) rfl ⟨rfl, ?_⟩
  repeat' (first | (with_reducible exact Below.refl _ _) | (with_reducible refine Below.alloc ?_ ?_ _) | (with_reducible refine Below.drew ?_) | (with_reducible refine Below.setCell ?_ ?_ _) | (with_reducible refine chain ?_ (by assumption) ?_) | omega | (simp; done) | (simp; omega))

set_option maxRecDepth 100000 in
set_option maxHeartbeats 2000000 in
theorem tn_5 (a b c d k : Int) (w : World) (t1 : -7 ≤ k.tmod 8) (t2 : k.tmod 8 ≤ 7) (t3 : (k.tmod 8 + 8) % 8 = 5) (t4 : (k.tmod 8 + 8).tmod 8 = 5) (hx : vr a b c d = true) :
    Calls Try.prog 162 #[rg a b c d, .int .i64 k] w fun e w' => e = .returned (rg d (-a) (-b) (-c)) ∧ Below w.heap.size w w' := by
  obtain ⟨⟨a1, a2⟩, ⟨b1, b2⟩, ⟨c1, c2⟩, ⟨d1, d2⟩⟩ := vr_iff.1 hx
  have HX := hid hx
  clear hx
  go_enter Try.func162, Try.ntmps162
  go_wp2_with (first | go_in)
  go_rounds 6
  refine bodyPost_ret (v := rg d (-a) (-b) (-c)) (by simp [results, Try.results162, go_sem, *]) rfl ⟨rfl, ?_⟩
  repeat' (first | (with_reducible exact Below.refl _ _) | (with_reducible refine Below.alloc ?_ ?_ _) | (with_reducible refine Below.drew ?_) | (with_reducible refine Below.setCell ?_ ?_ _) | (with_reducible refine chain ?_ (by assumption) ?_) | omega | (simp; done) | (simp; omega))

set_option maxRecDepth 100000 in
set_option maxHeartbeats 2000000 in
theorem tn_6 (a b c d k : Int) (w : World) (t1 : -7 ≤ k.tmod 8) (t2 : k.tmod 8 ≤ 7) (t3 : (k.tmod 8 + 8) % 8 = 6) (t4 : (k.tmod 8 + 8).tmod 8 = 6) (hx : vr a b c d = true) :
    Calls Try.prog 162 #[rg a b c d, .int .i64 k] w fun e w' => e = .returned (rg c d (-a) (-b)) ∧ Below w.heap.size w w' := by
  obtain ⟨⟨a1, a2⟩, ⟨b1, b2⟩, ⟨c1, c2⟩, ⟨d1, d2⟩⟩ := vr_iff.1 hx
  have HX := hid hx
  clear hx
  go_enter Try.func162, Try.ntmps162
  go_wp2_with (first | go_in)
  go_rounds 7
  refine bodyPost_ret (v := rg c d (-a) (-b)) (by simp [results, Try.results162, go_sem, *]) rfl ⟨rfl, ?_⟩
  repeat' (first | (with_reducible exact Below.refl _ _) | (with_reducible refine Below.alloc ?_ ?_ _) | (with_reducible refine Below.drew ?_) | (with_reducible refine Below.setCell ?_ ?_ _) | (with_reducible refine chain ?_ (by assumption) ?_) | omega | (simp; done) | (simp; omega))

set_option maxRecDepth 100000 in
set_option maxHeartbeats 2000000 in
theorem tn_7 (a b c d k : Int) (w : World) (t1 : -7 ≤ k.tmod 8) (t2 : k.tmod 8 ≤ 7) (t3 : (k.tmod 8 + 8) % 8 = 7) (t4 : (k.tmod 8 + 8).tmod 8 = 7) (hx : vr a b c d = true) :
    Calls Try.prog 162 #[rg a b c d, .int .i64 k] w fun e w' => e = .returned (rg b c d (-a)) ∧ Below w.heap.size w w' := by
  obtain ⟨⟨a1, a2⟩, ⟨b1, b2⟩, ⟨c1, c2⟩, ⟨d1, d2⟩⟩ := vr_iff.1 hx
  have HX := hid hx
  clear hx
  go_enter Try.func162, Try.ntmps162
  go_wp2_with (first | go_in)
  go_rounds 8
  refine bodyPost_ret (v := rg b c d (-a)) (by simp [results, Try.results162, go_sem, *]) rfl ⟨rfl, ?_⟩
  repeat' (first | (with_reducible exact Below.refl _ _) | (with_reducible refine Below.alloc ?_ ?_ _) | (with_reducible refine Below.drew ?_) | (with_reducible refine Below.setCell ?_ ?_ _) | (with_reducible refine chain ?_ (by assumption) ?_) | omega | (simp; done) | (simp; omega))
end Go.Proofs.Ytgcligmpdlffoaa
