/- ParseForm: the law. -/
import Derived.Test.YtofclfgaekjonaaDoorAm
namespace Go.Proofs.YtofclfgaekjonaaDoor
open Go.RowKit RM
set_option linter.unusedVariables false
set_option linter.unusedSimpArgs false
attribute [local irreducible] World.setCell

set_option maxRecDepth 100000 in
set_option maxHeartbeats 2000000 in
theorem eqf {s : ByteArray} {c p : Int} {w : World} :
    Calls Tryd.prog 17 #[fmv s c p, fmv s c p] w fun ee w' => ee = .returned (.bool true) ∧ Below w.heap.size w w' := by
  go_enter Tryd.func17, Tryd.ntmps17
  go_wp2_with (fail)
  go_ret
  refine ⟨rfl, ?_⟩
  (repeat' (first | (with_reducible exact Below.refl _ _) | (with_reducible assumption) | (with_reducible refine Below.alloc ?_ ?_ _) | (with_reducible refine Below.drew ?_) | (with_reducible refine below_drewN ?_ _) | (with_reducible refine Below.setCell ?_ ?_ _) | (with_reducible refine chain ?_ (by assumption) ?_) | omega | (simp; done) | (simp; omega)))
set_option maxRecDepth 100000 in
set_option maxHeartbeats 4000000 in
theorem lwParseForm {s : ByteArray} {w : World} (hs : s.size ≤ 1048576) (hE : Ers w) :
    Calls Tryd.prog 5 #[.string s] w fun ee w' => ee = .returned (.bool true) ∧ Below w.heap.size w w' := by
  obtain ⟨s0, c, p, t, hS, hI⟩ := pf_both hs hE
  unfold Ans at hS hI
  have HS := lay0 hS
  have HI := lay0 hI
  have h1 : ¬ ((s.size : Int) > 1048576) := by omega
  have h2 : (s.size : Int) ≤ 1048576 := by omega
  clear hs hS hI hE
  go_enter Tryd.func5, Tryd.ntmps5
  go_wp2_with (go_at_call 15; refine (HS.out _).mono ?_)
  first | rintro ee w1 rfl hb1 | rintro ee w1 ⟨rfl, hb1⟩
  go_upto_region 4 with (fail)
  obtain ⟨w3, hw3⟩ : ∃ W, W = w1.alloc (.cells #[.string s0, .int .i64 c, .int .i64 p] 30) := ⟨_, rfl⟩
  obtain ⟨b, hbn⟩ : ∃ b, b = w1.heap.size := ⟨_, rfl⟩
  have X3 : Bx w3 b 30 #[.string s0, .int .i64 c, .int .i64 p] := by rw [hw3]; exact Bx.new hbn
  have HB3 : Below w.heap.size w w3 := by rw [hw3]; exact hb1.alloc hb1.size _
  rw [← hw3, ← hbn]
  clear hw3 hbn hb1
  go_wp2_with (go_at_call 16; refine (HI.out w3 HB3).mono ?_)
  first | rintro ee w4 rfl hb4 | rintro ee w4 ⟨rfl, hb4⟩
  have X4 := X3.mono hb4
  have HB4 := HB3.trans (hb4.mono HB3.size)
  clear hb4 X3 HB3
  go_upto_region 5 with (fail)
  obtain ⟨w5, hw5⟩ : ∃ W, W = w4.alloc (.cells #[.string s0, .int .i64 c, .int .i64 p] 30) := ⟨_, rfl⟩
  obtain ⟨b2, hbn⟩ : ∃ b, b = w4.heap.size := ⟨_, rfl⟩
  have X5 : Bx w5 b 30 #[.string s0, .int .i64 c, .int .i64 p] := by rw [hw5]; exact X4.alloc _
  have Y5 : Bx w5 b2 30 #[.string s0, .int .i64 c, .int .i64 p] := by rw [hw5]; exact Bx.new hbn
  have HB5 : Below w.heap.size w w5 := by rw [hw5]; exact HB4.alloc HB4.size _
  rw [← hw5, ← hbn]
  clear hw5 hbn HB4 X4
  have x0 := X5.c 0 rfl
  have x1 := X5.c 1 rfl
  have x2 := X5.c 2 rfl
  have y0 := Y5.c 0 rfl
  have y1 := Y5.c 1 rfl
  have y2 := Y5.c 2 rfl
  go_wp2_with (go_at_call 17; refine (eqf (s := s0) (c := c) (p := p)).mono ?_)
  first | rintro ee w6 rfl hb6 | rintro ee w6 ⟨rfl, hb6⟩
  have HB6 := HB5.trans (hb6.mono HB5.size)
  go_wp2_with (fail)
  go_ret
  exact ⟨rfl, HB6⟩
set_option maxRecDepth 100000 in
set_option maxHeartbeats 2000000 in
theorem bigParseForm {s : ByteArray} {w : World} (hb : 1048576 < (s.size : Int)) :
    Calls Tryd.prog 5 #[.string s] w fun ee w' => ee = .returned (.bool true) ∧ Below w.heap.size w w' := by
  go_enter Tryd.func5, Tryd.ntmps5
  go_wp2_with (fail)
  go_ret
  exact ⟨rfl, Below.refl _ _⟩
theorem fnExactParseForm_walk {s : ByteArray} {w : World} (hE : Ers w) :
    Calls Tryd.prog 5 #[.string s] w fun ee w' => ee = .returned (.bool true) ∧ Below w.heap.size w w' := by
  by_cases h : s.size ≤ 1048576
  · exact lwParseForm h hE
  · exact bigParseForm (by omega)

end Go.Proofs.YtofclfgaekjonaaDoor
