/- The walk of the law on ParseDyadic. -/
import Derived.Test.YtdbnjoeanoiifaaDoorPd
namespace Go.Proofs.YtdbnjoeanoiifaaDoor
open Go.RowKit RM
set_option linter.unusedVariables false
set_option linter.unusedSimpArgs false
attribute [local irreducible] World.setCell

set_option maxRecDepth 100000 in
set_option maxHeartbeats 4000000 in
theorem fnExactParseDyadic_walk {s : ByteArray} {w : World} (hE : Ers w) (hP : p10 w) :
    Calls Tryd.prog 5 #[.string s] w fun e w' => e = .returned (.bool true) ∧ Below w.heap.size w w' := by
  by_cases hs : s.size ≤ 1048576
  · obtain ⟨a, b, c, d, e, ok, hS, hI⟩ := pd_both hs hE hP
    have HS := lay hS
    have HI := lay hI
    clear hS hI hE hP
    have hs1 : (s.size : Int) ≤ 1048576 := by omega
    have hs2 : ¬ (1048576 < (s.size : Int)) := by omega
    go_enter Tryd.func5, Tryd.ntmps5
    go_wp2_with (fail)
    refine (HS.out _).mono ?_
    rintro ee w1 ⟨rfl, hb1⟩
    have HB1 := lay hb1
    clear hb1
    go_wp2_with (fail)
    have hz0 := HB1.out.size
    refine (HI.out _ (by have hb1 := HB1.out; (repeat' (first | (with_reducible exact Below.refl _ _) | (with_reducible assumption) | (with_reducible refine Below.alloc ?_ ?_ _) | (with_reducible refine Below.drew ?_) | (with_reducible refine bdN ?_ _) | (with_reducible refine Below.setCell ?_ ?_ _) | (with_reducible refine chn ?_ (by assumption) ?_) | omega | (simp; done) | (simp; omega))))).mono ?_
    rintro ee w2 ⟨rfl, hb⟩
    have hz1 := HB1.out.size
    have X1 := lay (Bb.mono (b := w1.heap.size) (t := 35) (cs := #[.int .i64 a, .int .i64 b, .int .i64 c, .int .i64 d, .int .i64 e]) (Bb.new rfl) hb)
    have HB2 : Hid (Below w.heap.size w w2) := by show Below _ _ _; exact chn (HB1.out.alloc (by omega) _) hb (by simp; omega)
    clear hb HB1
    have r0 := X1.out.c 0 rfl
    have r1 := X1.out.c 1 rfl
    have r2 := X1.out.c 2 rfl
    have r3 := X1.out.c 3 rfl
    have r4 := X1.out.c 4 rfl
    have rl := X1.out.lt
    go_wp2_with (fail)
    refine (ed a b c d e _).mono ?_
    rintro ee w3 ⟨rfl, hb⟩
    have hz2 := HB2.out.size
    replace HB2 : Hid (Below w.heap.size w w3) := by show Below _ _ _; exact chn (HB2.out.alloc (by omega) _) hb (by simp; omega)
    clear hb r0 r1 r2 r3 r4 rl X1
    cases ok
    all_goals (go_wp2_with (fail))
    all_goals refine bodyPost_ret (v := .bool true) (by first | (simp [results, Tryd.results5, go_sem, *]; done) | (simp (disch := (first | omega | (simp; done) | (simp; omega))) [results, Tryd.results5, go_sem, *]; done) | (simp only [results, Tryd.results5]; go_simp; done)) rfl ⟨rfl, ?_⟩
    all_goals exact HB2.out
  · have hs2 : (1048576 : Int) < (s.size : Int) := by omega
    clear hE hP
    go_enter Tryd.func5, Tryd.ntmps5
    go_wp2_with (fail)
    refine bodyPost_ret (v := .bool true) (by first | (simp [results, Tryd.results5, go_sem, *]; done) | (simp (disch := (first | omega | (simp; done) | (simp; omega))) [results, Tryd.results5, go_sem, *]; done) | (simp only [results, Tryd.results5]; go_simp; done)) rfl ⟨rfl, ?_⟩
    (repeat' (first | (with_reducible exact Below.refl _ _) | (with_reducible assumption) | (with_reducible refine Below.alloc ?_ ?_ _) | (with_reducible refine Below.drew ?_) | (with_reducible refine bdN ?_ _) | (with_reducible refine Below.setCell ?_ ?_ _) | (with_reducible refine chn ?_ (by assumption) ?_) | omega | (simp; done) | (simp; omega)))
end Go.Proofs.YtdbnjoeanoiifaaDoor
