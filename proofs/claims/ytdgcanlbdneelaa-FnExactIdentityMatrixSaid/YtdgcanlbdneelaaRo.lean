/- Contracts of what the program does with rows. -/
import Derived.Test.YtdgcanlbdneelaaVm2
import Derived.Test.YtdgcanlbdneelaaHeldB
import Derived.Test.YtdgcanlbdneelaaBx
import Derived.BigQuiet
import Derived.Deep.QuietTactic
import Derived.IntWalk
namespace Go.Proofs.Ytdgcanlbdneelaa
open Go.RowKit RM
set_option linter.unusedVariables false
set_option linter.unusedSimpArgs false
attribute [local irreducible] World.setCell

set_option maxRecDepth 100000 in
set_option maxHeartbeats 4000000 in
theorem rw_i {r : Int} {C i s g n cp : Nat} {w : World} (hs : (i : Int) * (C : Int) = (s : Int)) (he : ((i : Int) + 1) * (C : Int) = ((s + C : Nat) : Int)) (h1 : s + C ≤ cp) (h2 : cp ≤ 1048576) (h3 : 1 ≤ C) (h4 : i ≤ 1048576) :
    Calls Try.prog 55 #[mv r C (some ⟨g, 0, none⟩) n cp, .int .i64 (i : Int)] w fun ee w' => ee = .returned (.slice (some ⟨g, s * 5, none⟩) C C) ∧ Below w.heap.size w w' := by
  have b0 : (s : Int) + C ≤ cp := by omega
  have b1 : (cp : Int) ≤ 1048576 := by omega
  have b2 : (1 : Int) ≤ C := by omega
  have b3 : (s : Int) ≤ 1048576 := by omega
  have b4 : ¬ (cp = s) := by omega
  have b6 : s + C - s = C := by omega
  have b5 : (i : Int) ≤ 1048576 := by omega
  simp only [Int.natCast_add] at he
  go_enter Try.func55, Try.ntmps55
  go_wp2_with (fail)
  go_quiet (fail)
  go_wp2_with (fail)
  go_ret
  refine ⟨by show Ending.returned (Value.slice _ (s + C - s) (s + C - s)) = _; rw [b6], ?_⟩
  (repeat' (first | (with_reducible exact Below.refl _ _) | (with_reducible assumption) | (with_reducible refine Below.alloc ?_ ?_ _) | (with_reducible refine Below.drew ?_) | (with_reducible refine below_drewN ?_ _) | (with_reducible refine Below.setCell ?_ ?_ _) | (with_reducible refine chain ?_ (by assumption) ?_) | omega | (simp; done) | (simp; omega)))

set_option maxRecDepth 100000 in
set_option maxHeartbeats 4000000 in
theorem zm {r c n : Nat} {w : World} (hn : (r : Int) * (c : Int) = (n : Int)) (hb : n ≤ 1024) :
    Calls Try.prog 54 #[.int .i64 (r : Int), .int .i64 (c : Int)] w fun ee w' => ∃ g, ee = .returned (mv (r : Int) (c : Int) (some ⟨g, 0, none⟩) n n) ∧ Bk w' g 37 (List.replicate n z5) ∧ w.heap.size ≤ g ∧ Below w.heap.size w w' := by
  have hmk := mkD n (by omega)
  have e2 : IntKind.i64.wrap (n : Int) = (n : Int) := IntWalk.i64_in _ (by omega)
  go_enter Try.func54, Try.ntmps54
  go_wp2_with (fail)
  refine bodyPost_ret (v := mv (r : Int) (c : Int) (some ⟨w.heap.size + 1, 0, none⟩) n n) (by first | (simp [results, Try.results54, go_sem, *]; done) | (simp (disch := (first | omega | (simp; done) | (simp; omega))) [results, Try.results54, go_sem, *]; done)) rfl ⟨_, rfl, ?_, by omega, ?_⟩
  · exact Bk.made' (by simp)
  · (repeat' (first | (with_reducible exact Below.refl _ _) | (with_reducible assumption) | (with_reducible refine Below.alloc ?_ ?_ _) | (with_reducible refine Below.drew ?_) | (with_reducible refine below_drewN ?_ _) | (with_reducible refine Below.setCell ?_ ?_ _) | (with_reducible refine chain ?_ (by assumption) ?_) | omega | (simp; done) | (simp; omega)))

end Go.Proofs.Ytdgcanlbdneelaa
