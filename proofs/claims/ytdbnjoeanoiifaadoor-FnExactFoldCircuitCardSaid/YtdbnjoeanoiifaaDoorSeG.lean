/- Gates compared as structs. -/
import Derived.Test.YtdbnjoeanoiifaaDoorFlat
import Derived.ChangeKeysEq
namespace Go.Proofs.YtdbnjoeanoiifaaDoor
open Go.RowKit
set_option linter.unusedVariables false
set_option linter.unusedSimpArgs false
attribute [local irreducible] World.setCell

theorem fieldsOfE {P : Program} {t : TypeId} {fs : Array Field} (h : P.underlying t = some (.struct fs)) : P.fieldsOf t = fs := by unfold Program.fieldsOf; rw [h]
theorem feGate : ∃ f0 f1 f2 : Field, (Tryd.prog.fieldsOf 86).toList = [f0, f1, f2] ∧ (f0.type = 3 ∧ f1.type = 3 ∧ f2.type = 3) ∧ (f0.offset = 0 ∧ f1.offset = 1 ∧ f2.offset = 2) ∧ (f0.name ≠ "_" ∧ f1.name ≠ "_" ∧ f2.name ≠ "_") :=
  ⟨_, _, _, congrArg Array.toList (fieldsOfE Tryd.underlying86), ⟨rfl, rfl, rfl⟩, ⟨rfl, rfl, rfl⟩, ⟨by decide, by decide, by decide⟩⟩
theorem paGate (x0 x1 x2 : Int) (w : World) : (part 3 #[.int .i64 x0, .int .i64 x1, .int .i64 x2] 0).run Tryd.prog w = .ok (.int .i64 x0) w ∧ (part 3 #[.int .i64 x0, .int .i64 x1, .int .i64 x2] 1).run Tryd.prog w = .ok (.int .i64 x1) w ∧ (part 3 #[.int .i64 x0, .int .i64 x1, .int .i64 x2] 2).run Tryd.prog w = .ok (.int .i64 x2) w :=
  ⟨by kernel_rfl, by kernel_rfl, by kernel_rfl⟩
theorem ueGate : Tryd.prog.underlying 86 = some (.struct (Tryd.prog.fieldsOf 86)) := by kernel_rfl
theorem seGate : Tryd.prog.stoodInHeld 86 = false := by kernel_rfl
theorem eeGate (k : Nat) (x0 x1 x2 y0 y1 y2 : Int) (w : World) : (Op.equalIn (k + 2) 86 (.agg #[.int .i64 x0, .int .i64 x1, .int .i64 x2]) (.agg #[.int .i64 y0, .int .i64 y1, .int .i64 y2])).run Tryd.prog w = .ok (x0 == y0 && (x1 == y1 && (x2 == y2))) w := by
  obtain ⟨f0, f1, f2, hf, ⟨t0, t1, t2⟩, ⟨o0, o1, o2⟩, ⟨n0, n1, n2⟩⟩ := feGate
  rw [run_equalIn_struct w (k + 1) _ _ _ ueGate seGate, hf]
  obtain ⟨u0, u1, u2⟩ := paGate x0 x1 x2 w
  obtain ⟨v0, v1, v2⟩ := paGate y0 y1 y2 w
  have e0 := fun w => run_equalIn_int w k 3 .i64 .i64 x0 y0 Tryd.underlying3
  have e1 := fun w => run_equalIn_int w k 3 .i64 .i64 x1 y1 Tryd.underlying3
  have e2 := fun w => run_equalIn_int w k 3 .i64 .i64 x2 y2 Tryd.underlying3
  cases h0 : (x0 == y0) <;> cases h1 : (x1 == y1) <;> cases h2 : (x2 == y2) <;> (rw [h0] at e0; rw [h1] at e1; rw [h2] at e2; simp [Op.eqFields, t0, o0, n0, u0, v0, e0, t1, o1, n1, u1, v1, e1, t2, o2, n2, u2, v2, e2])
theorem run_neqGate (x0 x1 x2 y0 y1 y2 : Int) (v : Bool) (w : World) (h : (x0 == y0 && (x1 == y1 && (x2 == y2))) = v) : (binOp .neq 86 (.agg #[.int .i64 x0, .int .i64 x1, .int .i64 x2]) (.agg #[.int .i64 y0, .int .i64 y1, .int .i64 y2])).run Tryd.prog w = .ok (.bool (!v)) w := by
  subst h
  simp only [binOp]
  simp [Op.equal, Op.maxDepth, eeGate 9998 x0 x1 x2 y0 y1 y2 w]
theorem run_eqlGate (x0 x1 x2 y0 y1 y2 : Int) (v : Bool) (w : World) (h : (x0 == y0 && (x1 == y1 && (x2 == y2))) = v) : (binOp .eql 86 (.agg #[.int .i64 x0, .int .i64 x1, .int .i64 x2]) (.agg #[.int .i64 y0, .int .i64 y1, .int .i64 y2])).run Tryd.prog w = .ok (.bool v) w := by
  subst h
  simp only [binOp]
  simp [Op.equal, Op.maxDepth, eeGate 9998 x0 x1 x2 y0 y1 y2 w]
theorem eqvGate {x y : GateV} : (x.f0 == y.f0 && (x.f1 == y.f1 && (x.f2 == y.f2))) = true ↔ x = y := by
  obtain ⟨a0, a1, a2⟩ := x
  obtain ⟨b0, b1, b2⟩ := y
  simp
theorem eqfGate {x y : GateV} (h : x ≠ y) : (x.f0 == y.f0 && (x.f1 == y.f1 && (x.f2 == y.f2))) = false := by
  cases hb : (x.f0 == y.f0 && (x.f1 == y.f1 && (x.f2 == y.f2)))
  · rfl
  · exact absurd (eqvGate.1 hb) h
theorem neqGate_s (x : GateV) (w : World) : (binOp .neq 86 x.v x.v).run Tryd.prog w = .ok (.bool false) w := run_neqGate _ _ _ _ _ _ true w (eqvGate.2 rfl)
theorem neqGate_d {x y : GateV} (h : x ≠ y) (w : World) : (binOp .neq 86 x.v y.v).run Tryd.prog w = .ok (.bool true) w := run_neqGate _ _ _ _ _ _ false w (eqfGate h)
theorem eqlGate_s (x : GateV) (w : World) : (binOp .eql 86 x.v x.v).run Tryd.prog w = .ok (.bool true) w := run_eqlGate _ _ _ _ _ _ true w (eqvGate.2 rfl)
theorem eqlGate_d {x y : GateV} (h : x ≠ y) (w : World) : (binOp .eql 86 x.v y.v).run Tryd.prog w = .ok (.bool false) w := run_eqlGate _ _ _ _ _ _ false w (eqfGate h)
theorem takEq {α : Type} {xs ys : List α} {j : Nat} {x : α} (hx : xs[j]? = some x) (hy : ys[j]? = some x) (h : xs.take j = ys.take j) : xs.take (j + 1) = ys.take (j + 1) := by
  rw [List.take_add_one, List.take_add_one, hx, hy, h]
theorem takEnd {α : Type} {xs ys : List α} {j : Nat} (h1 : xs.length = j) (h2 : ys.length = j) (h : xs.take j = ys.take j) : xs = ys := by
  rwa [List.take_of_length_le (by omega), List.take_of_length_le (by omega)] at h
theorem takNe {α : Type} {xs ys : List α} {j : Nat} {x y : α} (hx : xs[j]? = some x) (hy : ys[j]? = some y) (hne : x ≠ y) : xs ≠ ys := fun h => by
  rw [h, hy] at hx
  exact hne (Option.some.inj hx).symm
theorem boolOf {P : Prop} : ∃ t : Bool, t = true ↔ P := by
  by_cases h : P
  · exact ⟨true, fun _ => h, fun _ => rfl⟩
  · exact ⟨false, (fun k => by cases k), fun k => absurd k h⟩
theorem boolT {P : Prop} {t : Bool} (h : t = true ↔ P) (p : P) : t = true := h.2 p
theorem boolF {P : Prop} {t : Bool} (h : t = true ↔ P) (p : ¬ P) : t = false := by
  cases ht : t
  · rfl
  · exact absurd (h.1 ht) p
end Go.Proofs.YtdbnjoeanoiifaaDoor
