/- Two arrays of four integers compared: as their elements are. -/
import Derived.Test.YtofclfgaekjonaaValid
import Derived.ChangeKeysEq
namespace Go.Proofs.Ytofclfgaekjonaa
open Go.RowKit RM
set_option linter.unusedSimpArgs false
theorem infoInt : ∃ i, Try.prog.info? 3 = some i := Option.isSome_iff_exists.1 (by kernel_rfl)
theorem cellsInt : Try.prog.cellsOf 3 = 1 := by kernel_rfl
theorem part_int (a b c d : Int) (w : World) : (part 3 #[.int .i64 a, .int .i64 b, .int .i64 c, .int .i64 d] 0).run Try.prog w = .ok (.int .i64 a) w ∧ (part 3 #[.int .i64 a, .int .i64 b, .int .i64 c, .int .i64 d] 1).run Try.prog w = .ok (.int .i64 b) w
    ∧ (part 3 #[.int .i64 a, .int .i64 b, .int .i64 c, .int .i64 d] 2).run Try.prog w = .ok (.int .i64 c) w ∧ (part 3 #[.int .i64 a, .int .i64 b, .int .i64 c, .int .i64 d] 3).run Try.prog w = .ok (.int .i64 d) w :=
  ⟨by kernel_rfl, by kernel_rfl, by kernel_rfl, by kernel_rfl⟩
theorem eq4 (k : Nat) (a b c d p q r s : Int) (w : World) : (Op.equalIn (k + 2) 195 (rg a b c d) (rg p q r s)).run Try.prog w = .ok (a == p && (b == q && (c == r && d == s))) w := by
  obtain ⟨i, hi⟩ := infoInt
  rw [run_equalIn_array w (k + 1) _ _ Try.underlying195 hi, cellsInt]
  obtain ⟨x0, x1, x2, x3⟩ := part_int a b c d w
  obtain ⟨y0, y1, y2, y3⟩ := part_int p q r s w
  have r4 : List.range 4 = [0, 1, 2, 3] := rfl
  have e0 := fun w => run_equalIn_int w k 3 .i64 .i64 a p Try.underlying3
  have e1 := fun w => run_equalIn_int w k 3 .i64 .i64 b q Try.underlying3
  have e2 := fun w => run_equalIn_int w k 3 .i64 .i64 c r Try.underlying3
  have e3 := fun w => run_equalIn_int w k 3 .i64 .i64 d s Try.underlying3
  cases h0 : (a == p) <;> cases h1 : (b == q) <;> cases h2 : (c == r) <;> cases h3 : (d == s) <;> (rw [h0] at e0; rw [h1] at e1; rw [h2] at e2; rw [h3] at e3; simp [r4, Op.eqItems, x0, x1, x2, x3, y0, y1, y2, y3, e0, e1, e2, e3])
theorem run_neq4 (a b c d p q r s : Int) (v : Bool) (w : World) (h : (a == p && (b == q && (c == r && d == s))) = v) : (binOp .neq 195 (rg a b c d) (rg p q r s)).run Try.prog w = .ok (.bool (!v)) w := by
  subst h
  simp only [binOp]
  simp [Op.equal, Op.maxDepth, eq4 9998 a b c d p q r s w]
theorem run_eql4 (a b c d p q r s : Int) (v : Bool) (w : World) (h : (a == p && (b == q && (c == r && d == s))) = v) : (binOp .eql 195 (rg a b c d) (rg p q r s)).run Try.prog w = .ok (.bool v) w := by
  subst h
  simp only [binOp]
  simp [Op.equal, Op.maxDepth, eq4 9998 a b c d p q r s w]
end Go.Proofs.Ytofclfgaekjonaa
