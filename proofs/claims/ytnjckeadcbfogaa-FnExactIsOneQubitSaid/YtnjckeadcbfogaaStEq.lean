/- Two dyadic numbers compared as structs: as their five numbers are. -/
import Derived.Test.YtnjckeadcbfogaaZq9
import Derived.ChangeKeysEq
namespace Go.Proofs.Ytnjckeadcbfogaa
open Go.RowKit RM
set_option linter.unusedSimpArgs false
theorem fieldsOf_of {P : Program} {t : TypeId} {fs : Array Field} (h : P.underlying t = some (.struct fs)) : P.fieldsOf t = fs := by unfold Program.fieldsOf; rw [h]
theorem fR : ∃ f0 f1 f2 f3 : Field, (Try.prog.fieldsOf 57).toList = [f0, f1, f2, f3] ∧ (f0.type = 3 ∧ f1.type = 3 ∧ f2.type = 3 ∧ f3.type = 3) ∧ (f0.offset = 0 ∧ f1.offset = 1 ∧ f2.offset = 2 ∧ f3.offset = 3) ∧ (f0.name ≠ "_" ∧ f1.name ≠ "_" ∧ f2.name ≠ "_" ∧ f3.name ≠ "_") :=
  ⟨_, _, _, _, congrArg Array.toList (fieldsOf_of Try.underlying57), ⟨rfl, rfl, rfl, rfl⟩, ⟨rfl, rfl, rfl, rfl⟩, ⟨by decide, by decide, by decide, by decide⟩⟩
theorem fD : ∃ f0 f1 : Field, (Try.prog.fieldsOf 59).toList = [f0, f1] ∧ (f0.type = 57 ∧ f1.type = 3) ∧ (f0.offset = 0 ∧ f1.offset = 4) ∧ (f0.name ≠ "_" ∧ f1.name ≠ "_") :=
  ⟨_, _, congrArg Array.toList (fieldsOf_of Try.underlying59), ⟨rfl, rfl⟩, ⟨rfl, rfl⟩, ⟨by decide, by decide⟩⟩
theorem pR (a b c d : Int) (w : World) : (part 3 #[.int .i64 a, .int .i64 b, .int .i64 c, .int .i64 d] 0).run Try.prog w = .ok (.int .i64 a) w ∧ (part 3 #[.int .i64 a, .int .i64 b, .int .i64 c, .int .i64 d] 1).run Try.prog w = .ok (.int .i64 b) w
    ∧ (part 3 #[.int .i64 a, .int .i64 b, .int .i64 c, .int .i64 d] 2).run Try.prog w = .ok (.int .i64 c) w ∧ (part 3 #[.int .i64 a, .int .i64 b, .int .i64 c, .int .i64 d] 3).run Try.prog w = .ok (.int .i64 d) w :=
  ⟨by kernel_rfl, by kernel_rfl, by kernel_rfl, by kernel_rfl⟩
theorem pD (a b c d e : Int) (w : World) : (part 57 #[.int .i64 a, .int .i64 b, .int .i64 c, .int .i64 d, .int .i64 e] 0).run Try.prog w = .ok (rg a b c d) w ∧ (part 3 #[.int .i64 a, .int .i64 b, .int .i64 c, .int .i64 d, .int .i64 e] 4).run Try.prog w = .ok (.int .i64 e) w :=
  ⟨by kernel_rfl, by kernel_rfl⟩
theorem uR : Try.prog.underlying 57 = some (.struct (Try.prog.fieldsOf 57)) := by kernel_rfl
theorem uD : Try.prog.underlying 59 = some (.struct (Try.prog.fieldsOf 59)) := by kernel_rfl
theorem sR : Try.prog.stoodInHeld 57 = false := by kernel_rfl
theorem sD : Try.prog.stoodInHeld 59 = false := by kernel_rfl
theorem eqR (k : Nat) (a b c d p q r s : Int) (w : World) : (Op.equalIn (k + 2) 57 (rg a b c d) (rg p q r s)).run Try.prog w = .ok (a == p && (b == q && (c == r && d == s))) w := by
  obtain ⟨f0, f1, f2, f3, hf, ⟨t0, t1, t2, t3⟩, ⟨o0, o1, o2, o3⟩, ⟨n0, n1, n2, n3⟩⟩ := fR
  rw [run_equalIn_struct w (k + 1) _ _ _ uR sR, hf]
  obtain ⟨x0, x1, x2, x3⟩ := pR a b c d w
  obtain ⟨y0, y1, y2, y3⟩ := pR p q r s w
  have e0 := fun w => run_equalIn_int w k 3 .i64 .i64 a p Try.underlying3
  have e1 := fun w => run_equalIn_int w k 3 .i64 .i64 b q Try.underlying3
  have e2 := fun w => run_equalIn_int w k 3 .i64 .i64 c r Try.underlying3
  have e3 := fun w => run_equalIn_int w k 3 .i64 .i64 d s Try.underlying3
  cases h0 : (a == p) <;> cases h1 : (b == q) <;> cases h2 : (c == r) <;> cases h3 : (d == s) <;> (rw [h0] at e0; rw [h1] at e1; rw [h2] at e2; rw [h3] at e3; simp [Op.eqFields, t0, t1, t2, t3, o0, o1, o2, o3, n0, n1, n2, n3, x0, x1, x2, x3, y0, y1, y2, y3, e0, e1, e2, e3])
theorem eqD (k : Nat) (a b c d e p q r s f : Int) (w : World) : (Op.equalIn (k + 3) 59 (dy a b c d e) (dy p q r s f)).run Try.prog w = .ok ((a == p && (b == q && (c == r && d == s))) && e == f) w := by
  obtain ⟨f0, f1, hf, ⟨t0, t1⟩, ⟨o0, o1⟩, ⟨n0, n1⟩⟩ := fD
  rw [run_equalIn_struct w (k + 2) _ _ _ uD sD, hf]
  obtain ⟨x0, x1⟩ := pD a b c d e w
  obtain ⟨y0, y1⟩ := pD p q r s f w
  have e0 := fun w => eqR k a b c d p q r s w
  have e1 := fun w => run_equalIn_int w (k + 1) 3 .i64 .i64 e f Try.underlying3
  cases h0 : (a == p && (b == q && (c == r && d == s))) <;> cases h1 : (e == f) <;> (rw [h0] at e0; rw [h1] at e1; simp [Op.eqFields, t0, t1, o0, o1, n0, n1, x0, x1, y0, y1, e0, e1])
theorem run_neqD (a b c d e p q r s f : Int) (v : Bool) (w : World) (h : ((a == p && (b == q && (c == r && d == s))) && e == f) = v) : (binOp .neq 59 (dy a b c d e) (dy p q r s f)).run Try.prog w = .ok (.bool (!v)) w := by
  subst h
  simp only [binOp]
  simp [Op.equal, Op.maxDepth, eqD 9997 a b c d e p q r s f w]
theorem run_eqlD (a b c d e p q r s f : Int) (v : Bool) (w : World) (h : ((a == p && (b == q && (c == r && d == s))) && e == f) = v) : (binOp .eql 59 (dy a b c d e) (dy p q r s f)).run Try.prog w = .ok (.bool v) w := by
  subst h
  simp only [binOp]
  simp [Op.equal, Op.maxDepth, eqD 9997 a b c d e p q r s f w]
theorem eqv5 {x y : D5} : ((x.a == y.a && (x.b == y.b && (x.c == y.c && x.d == y.d))) && x.e == y.e) = decide (x.a = y.a ∧ x.b = y.b ∧ x.c = y.c ∧ x.d = y.d ∧ x.e = y.e) := by
  rw [Bool.eq_iff_iff]; simp [and_assoc]
theorem ne_all5 {x y : D5} (h : x ≠ y) : ¬ (x.a = y.a ∧ x.b = y.b ∧ x.c = y.c ∧ x.d = y.d ∧ x.e = y.e) := by
  obtain ⟨a, b, c, d, e⟩ := x
  obtain ⟨p, q, r, s, f⟩ := y
  rintro ⟨rfl, rfl, rfl, rfl, rfl⟩
  exact h rfl
/-- two numbers that differ; a number and itself -/
theorem neq_t {x y : D5} (h : x ≠ y) (w : World) : (binOp .neq 59 x.v y.v).run Try.prog w = .ok (.bool true) w :=
  run_neqD _ _ _ _ _ _ _ _ _ _ false w (by rw [eqv5, decide_eq_false (ne_all5 h)])
theorem neq_f (x : D5) (w : World) : (binOp .neq 59 x.v x.v).run Try.prog w = .ok (.bool false) w :=
  run_neqD _ _ _ _ _ _ _ _ _ _ true w (by rw [eqv5]; simp)
theorem eql_f {x y : D5} (h : x ≠ y) (w : World) : (binOp .eql 59 x.v y.v).run Try.prog w = .ok (.bool false) w :=
  run_eqlD _ _ _ _ _ _ _ _ _ _ false w (by rw [eqv5, decide_eq_false (ne_all5 h)])
theorem eql_t (x : D5) (w : World) : (binOp .eql 59 x.v x.v).run Try.prog w = .ok (.bool true) w :=
  run_eqlD _ _ _ _ _ _ _ _ _ _ true w (by rw [eqv5]; simp)
end Go.Proofs.Ytnjckeadcbfogaa
