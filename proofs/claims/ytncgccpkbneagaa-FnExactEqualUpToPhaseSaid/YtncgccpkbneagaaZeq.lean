/- StEq, Eq -/
import Derived.Test.YtncgccpkbneagaaZmx
import Derived.ChangeKeysEq
import Derived.Test.YtncgccpkbneagaaVm2
import Derived.BigQuiet
import Derived.Deep.QuietTactic
import Derived.Deep.LoopGhost
namespace Go.Proofs.Ytncgccpkbneagaa
open Go.RowKit RM
set_option linter.unusedSimpArgs false
theorem fieldsOf_of {P : Program} {t : TypeId} {fs : Array Field} (h : P.underlying t = some (.struct fs)) : P.fieldsOf t = fs := by unfold Program.fieldsOf; rw [h]
theorem fR : ∃ f0 f1 f2 f3 : Field, (Try.prog.fieldsOf 35).toList = [f0, f1, f2, f3] ∧ (f0.type = 3 ∧ f1.type = 3 ∧ f2.type = 3 ∧ f3.type = 3) ∧ (f0.offset = 0 ∧ f1.offset = 1 ∧ f2.offset = 2 ∧ f3.offset = 3) ∧ (f0.name ≠ "_" ∧ f1.name ≠ "_" ∧ f2.name ≠ "_" ∧ f3.name ≠ "_") :=
  ⟨_, _, _, _, congrArg Array.toList (fieldsOf_of Try.underlying35), ⟨rfl, rfl, rfl, rfl⟩, ⟨rfl, rfl, rfl, rfl⟩, ⟨by decide, by decide, by decide, by decide⟩⟩
theorem fD : ∃ f0 f1 : Field, (Try.prog.fieldsOf 37).toList = [f0, f1] ∧ (f0.type = 35 ∧ f1.type = 3) ∧ (f0.offset = 0 ∧ f1.offset = 4) ∧ (f0.name ≠ "_" ∧ f1.name ≠ "_") :=
  ⟨_, _, congrArg Array.toList (fieldsOf_of Try.underlying37), ⟨rfl, rfl⟩, ⟨rfl, rfl⟩, ⟨by decide, by decide⟩⟩
theorem pR (a b c d : Int) (w : World) : (part 3 #[.int .i64 a, .int .i64 b, .int .i64 c, .int .i64 d] 0).run Try.prog w = .ok (.int .i64 a) w ∧ (part 3 #[.int .i64 a, .int .i64 b, .int .i64 c, .int .i64 d] 1).run Try.prog w = .ok (.int .i64 b) w
    ∧ (part 3 #[.int .i64 a, .int .i64 b, .int .i64 c, .int .i64 d] 2).run Try.prog w = .ok (.int .i64 c) w ∧ (part 3 #[.int .i64 a, .int .i64 b, .int .i64 c, .int .i64 d] 3).run Try.prog w = .ok (.int .i64 d) w :=
  ⟨by kernel_rfl, by kernel_rfl, by kernel_rfl, by kernel_rfl⟩
theorem pD (a b c d e : Int) (w : World) : (part 35 #[.int .i64 a, .int .i64 b, .int .i64 c, .int .i64 d, .int .i64 e] 0).run Try.prog w = .ok (rg a b c d) w ∧ (part 3 #[.int .i64 a, .int .i64 b, .int .i64 c, .int .i64 d, .int .i64 e] 4).run Try.prog w = .ok (.int .i64 e) w :=
  ⟨by kernel_rfl, by kernel_rfl⟩
theorem uR : Try.prog.underlying 35 = some (.struct (Try.prog.fieldsOf 35)) := by kernel_rfl
theorem uD : Try.prog.underlying 37 = some (.struct (Try.prog.fieldsOf 37)) := by kernel_rfl
theorem sR : Try.prog.stoodInHeld 35 = false := by kernel_rfl
theorem sD : Try.prog.stoodInHeld 37 = false := by kernel_rfl
theorem eqR (k : Nat) (a b c d p q r s : Int) (w : World) : (Op.equalIn (k + 2) 35 (rg a b c d) (rg p q r s)).run Try.prog w = .ok (a == p && (b == q && (c == r && d == s))) w := by
  obtain ⟨f0, f1, f2, f3, hf, ⟨t0, t1, t2, t3⟩, ⟨o0, o1, o2, o3⟩, ⟨n0, n1, n2, n3⟩⟩ := fR
  rw [run_equalIn_struct w (k + 1) _ _ _ uR sR, hf]
  obtain ⟨x0, x1, x2, x3⟩ := pR a b c d w
  obtain ⟨y0, y1, y2, y3⟩ := pR p q r s w
  have e0 := fun w => run_equalIn_int w k 3 .i64 .i64 a p Try.underlying3
  have e1 := fun w => run_equalIn_int w k 3 .i64 .i64 b q Try.underlying3
  have e2 := fun w => run_equalIn_int w k 3 .i64 .i64 c r Try.underlying3
  have e3 := fun w => run_equalIn_int w k 3 .i64 .i64 d s Try.underlying3
  cases h0 : (a == p) <;> cases h1 : (b == q) <;> cases h2 : (c == r) <;> cases h3 : (d == s) <;> (rw [h0] at e0; rw [h1] at e1; rw [h2] at e2; rw [h3] at e3; simp [Op.eqFields, t0, t1, t2, t3, o0, o1, o2, o3, n0, n1, n2, n3, x0, x1, x2, x3, y0, y1, y2, y3, e0, e1, e2, e3])
theorem eqD (k : Nat) (a b c d e p q r s f : Int) (w : World) : (Op.equalIn (k + 3) 37 (dy a b c d e) (dy p q r s f)).run Try.prog w = .ok ((a == p && (b == q && (c == r && d == s))) && e == f) w := by
  obtain ⟨f0, f1, hf, ⟨t0, t1⟩, ⟨o0, o1⟩, ⟨n0, n1⟩⟩ := fD
  rw [run_equalIn_struct w (k + 2) _ _ _ uD sD, hf]
  obtain ⟨x0, x1⟩ := pD a b c d e w
  obtain ⟨y0, y1⟩ := pD p q r s f w
  have e0 := fun w => eqR k a b c d p q r s w
  have e1 := fun w => run_equalIn_int w (k + 1) 3 .i64 .i64 e f Try.underlying3
  cases h0 : (a == p && (b == q && (c == r && d == s))) <;> cases h1 : (e == f) <;> (rw [h0] at e0; rw [h1] at e1; simp [Op.eqFields, t0, t1, o0, o1, n0, n1, x0, x1, y0, y1, e0, e1])
theorem run_neqD (a b c d e p q r s f : Int) (v : Bool) (w : World) (h : ((a == p && (b == q && (c == r && d == s))) && e == f) = v) : (binOp .neq 37 (dy a b c d e) (dy p q r s f)).run Try.prog w = .ok (.bool (!v)) w := by
  subst h
  simp only [binOp]
  simp [Op.equal, Op.maxDepth, eqD 9997 a b c d e p q r s f w]
theorem run_eqlD (a b c d e p q r s f : Int) (v : Bool) (w : World) (h : ((a == p && (b == q && (c == r && d == s))) && e == f) = v) : (binOp .eql 37 (dy a b c d e) (dy p q r s f)).run Try.prog w = .ok (.bool v) w := by
  subst h
  simp only [binOp]
  simp [Op.equal, Op.maxDepth, eqD 9997 a b c d e p q r s f w]
theorem eqv5 {x y : D5} : ((x.a == y.a && (x.b == y.b && (x.c == y.c && x.d == y.d))) && x.e == y.e) = decide (x.a = y.a ∧ x.b = y.b ∧ x.c = y.c ∧ x.d = y.d ∧ x.e = y.e) := by
  rw [Bool.eq_iff_iff]; simp [and_assoc]
theorem ne_all5 {x y : D5} (h : x ≠ y) : ¬ (x.a = y.a ∧ x.b = y.b ∧ x.c = y.c ∧ x.d = y.d ∧ x.e = y.e) := by
  obtain ⟨a, b, c, d, e⟩ := x
  obtain ⟨p, q, r, s, f⟩ := y
  rintro ⟨rfl, rfl, rfl, rfl, rfl⟩
  exact h rfl
/-- two numbers that differ; a number and itself -/
theorem neq_t {x y : D5} (h : x ≠ y) (w : World) : (binOp .neq 37 x.v y.v).run Try.prog w = .ok (.bool true) w :=
  run_neqD _ _ _ _ _ _ _ _ _ _ false w (by rw [eqv5, decide_eq_false (ne_all5 h)])
theorem neq_f (x : D5) (w : World) : (binOp .neq 37 x.v x.v).run Try.prog w = .ok (.bool false) w :=
  run_neqD _ _ _ _ _ _ _ _ _ _ true w (by rw [eqv5]; simp)
theorem eql_f {x y : D5} (h : x ≠ y) (w : World) : (binOp .eql 37 x.v y.v).run Try.prog w = .ok (.bool false) w :=
  run_eqlD _ _ _ _ _ _ _ _ _ _ false w (by rw [eqv5, decide_eq_false (ne_all5 h)])
theorem eql_t (x : D5) (w : World) : (binOp .eql 37 x.v x.v).run Try.prog w = .ok (.bool true) w :=
  run_eqlD _ _ _ _ _ _ _ _ _ _ true w (by rw [eqv5]; simp)
end Go.Proofs.Ytncgccpkbneagaa
namespace Go.Proofs.Ytncgccpkbneagaa
open Go.RowKit RM
set_option linter.unusedVariables false
set_option linter.unusedSimpArgs false
attribute [local irreducible] World.setCell

/-- equality of numbers, of lists of them -/
def D5.beq (x y : D5) : Bool := x.a == y.a && x.b == y.b && x.c == y.c && x.d == y.d && x.e == y.e
theorem beq_iff5 {x y : D5} : x.beq y = true ↔ x = y := by
  obtain ⟨a, b, c, d, e⟩ := x
  obtain ⟨p, q, r, s, f⟩ := y
  simp [D5.beq, and_assoc]
def eqL : List D5 → List D5 → Bool
  | [], [] => true
  | x :: xs, y :: ys => x.beq y && eqL xs ys
  | _, _ => false
theorem eqL_iff {xs ys : List D5} : eqL xs ys = true ↔ xs = ys := by
  induction xs generalizing ys with
  | nil => cases ys <;> simp [eqL]
  | cons x xs ih => cases ys with
    | nil => simp [eqL]
    | cons y ys => simp [eqL, ih, beq_iff5]
theorem eqL_at {xs ys : List D5} {j : Nat} {x y : D5} (hx : xs[j]? = some x) (hy : ys[j]? = some y) (hne : x ≠ y) : eqL xs ys = false := by
  cases h : eqL xs ys
  · rfl
  · rw [eqL_iff.1 h, hy] at hx
    exact absurd (Option.some.inj hx).symm hne
theorem eqL_len {xs ys : List D5} (h : xs.length ≠ ys.length) : eqL xs ys = false := by
  cases hq : eqL xs ys
  · rfl
  · exact absurd (by rw [eqL_iff.1 hq]) h
theorem take_eq {xs ys : List D5} {j : Nat} {x : D5} (hx : xs[j]? = some x) (hy : ys[j]? = some x) (h : xs.take j = ys.take j) : xs.take (j + 1) = ys.take (j + 1) := by
  rw [List.take_add_one, List.take_add_one, hx, hy, h]
theorem eqL_end {xs ys : List D5} {j : Nat} (h1 : xs.length = j) (h2 : ys.length = j) (h : xs.take j = ys.take j) : eqL xs ys = true := by
  rw [List.take_of_length_le (by omega), List.take_of_length_le (by omega)] at h
  exact eqL_iff.2 h
theorem ne5 {x y : D5} (h : x ≠ y) : ¬ (x.a = y.a ∧ x.b = y.b ∧ x.c = y.c ∧ x.d = y.d ∧ x.e = y.e) := by
  obtain ⟨a, b, c, d, e⟩ := x
  obtain ⟨p, q, r, s, f⟩ := y
  rintro ⟨rfl, rfl, rfl, rfl, rfl⟩
  exact h rfl

set_option maxRecDepth 100000 in
set_option maxHeartbeats 4000000 in
theorem sleq {A B : Option Addr} {n c d : Nat} {xs ys : List D5} {w : World} (hA : Rd w A xs) (hB : Rd w B ys) (hn : xs.length = n) (hm : ys.length = n) (hb : n ≤ 1048576) :
    Calls Try.prog 137 #[.slice A n c, .slice B n d] w fun ee w' => ee = .returned (.bool (eqL xs ys)) ∧ Below w.heap.size w w' := by
  have HA := hid hA
  have HB := hid hB
  have HN := hid hn
  have HM := hid hm
  clear hA hB hn hm
  go_enter Try.func137, Try.ntmps137
  go_wp2_with (fail)
  go_loopg [13] n (fun k s1 wr => ∃ j : Nat, j + k = n ∧ s1 = .int .i64 (j : Int) ∧ Hid (xs.take j = ys.take j) ∧ Below w.heap.size w wr)
  case atStart => exact ⟨0, by omega, rfl, rfl, by (repeat' (first | (with_reducible exact Below.refl _ _) | (with_reducible assumption) | (with_reducible refine Below.alloc ?_ ?_ _) | (with_reducible refine Below.drew ?_) | (with_reducible refine below_drewN ?_ _) | (with_reducible refine Below.setCell ?_ ?_ _) | (with_reducible refine chain ?_ (by assumption) ?_) | omega | (simp; done) | (simp; omega)))⟩
  case round =>
    obtain ⟨j, hj, rfl, HJ, hB⟩ := hrel
    cases gk with
    | zero =>
      obtain rfl : j = n := by omega
      go_wp2_with (fail)
      go_ret
      exact ⟨by rw [eqL_end HN.out HM.out HJ.out]; rfl, hB⟩
    | succ m =>
      have hlt : j < n := by omega
      obtain ⟨x, hx⟩ : ∃ x, xs[j]? = some x := ⟨_, List.getElem?_eq_getElem (by rw [HN.out]; exact hlt)⟩
      obtain ⟨y, hy⟩ : ∃ y, ys[j]? = some y := ⟨_, List.getElem?_eq_getElem (by rw [HM.out]; exact hlt)⟩
      obtain ⟨g, o, rfl, hC⟩ := HA.out j x hx
      obtain ⟨g', o', rfl, hC'⟩ := HB.out j y hy
      have HX := hid hx
      have HY := hid hy
      clear hx hy
      obtain ⟨q0, q1, q2, q3, q4⟩ := hC.at_ (hB.block g hC.lt)
      obtain ⟨p0, p1, p2, p3, p4⟩ := hC'.at_ (hB.block g' hC'.lt)
      clear hC hC'
      by_cases hxy : x = y
      · subst hxy
        have hop := neq_f x
        go_wp2_with (fail)
        go_quiet (fail)
        go_wp2_with (fail)
        go_roundg m
        case measure => omega
        case rel => exact ⟨j + 1, by omega, by go_num, take_eq HX.out HY.out HJ.out, by (repeat' (first | (with_reducible exact Below.refl _ _) | (with_reducible assumption) | (with_reducible refine Below.alloc ?_ ?_ _) | (with_reducible refine Below.drew ?_) | (with_reducible refine below_drewN ?_ _) | (with_reducible refine Below.setCell ?_ ?_ _) | (with_reducible refine chain ?_ (by assumption) ?_) | omega | (simp; done) | (simp; omega)))⟩
      · have HNE := hid hxy
        have hop := neq_t hxy
        clear hxy
        go_wp2_with (fail)
        go_quiet (fail)
        go_wp2_with (fail)
        go_ret
        refine ⟨by rw [eqL_at HX.out HY.out HNE.out]; rfl, ?_⟩
        (repeat' (first | (with_reducible exact Below.refl _ _) | (with_reducible assumption) | (with_reducible refine Below.alloc ?_ ?_ _) | (with_reducible refine Below.drew ?_) | (with_reducible refine below_drewN ?_ _) | (with_reducible refine Below.setCell ?_ ?_ _) | (with_reducible refine chain ?_ (by assumption) ?_) | omega | (simp; done) | (simp; omega)))

set_option maxRecDepth 100000 in
set_option maxHeartbeats 4000000 in
theorem sleq_n {A B : Option Addr} {n m c d : Nat} {w : World} (hne : n ≠ m) (hb : n ≤ 1048576) (hb2 : m ≤ 1048576) :
    Calls Try.prog 137 #[.slice A n c, .slice B m d] w fun ee w' => ee = .returned (.bool false) ∧ Below w.heap.size w w' := by
  have h1 : ((n : Int) != (m : Int)) = true := by simp; omega
  go_enter Try.func137, Try.ntmps137
  go_wp2_with (fail)
  go_ret
  refine ⟨rfl, ?_⟩
  (repeat' (first | (with_reducible exact Below.refl _ _) | (with_reducible assumption) | (with_reducible refine Below.alloc ?_ ?_ _) | (with_reducible refine Below.drew ?_) | (with_reducible refine below_drewN ?_ _) | (with_reducible refine Below.setCell ?_ ?_ _) | (with_reducible refine chain ?_ (by assumption) ?_) | omega | (simp; done) | (simp; omega)))

def eqM (r c r' c' : Int) (xs ys : List D5) : Bool := r == r' && (c == c' && eqL xs ys)

set_option maxRecDepth 100000 in
set_option maxHeartbeats 4000000 in
theorem eqm_i_r {r c r' c' : Int} {A B : Option Addr} {n m cp cp' : Nat} (hr : r ≠ r') (hb : n ≤ 1048576) (hb2 : m ≤ 1048576) (w : World) :
    Calls Try.prog 92 #[mv r c A n cp, mv r' c' B m cp'] w fun ee w' => ee = .returned (.bool false) ∧ Below w.heap.size w w' := by
  have h1 : (r == r') = false := by simpa using hr
  have h2 : (r != r') = true := by simpa using hr
  clear hr
  go_enter Try.func92, Try.ntmps92
  go_wp2_with (fail)
  go_ret
  refine ⟨rfl, ?_⟩
  (repeat' (first | (with_reducible exact Below.refl _ _) | (with_reducible assumption) | (with_reducible refine Below.alloc ?_ ?_ _) | (with_reducible refine Below.drew ?_) | (with_reducible refine below_drewN ?_ _) | (with_reducible refine Below.setCell ?_ ?_ _) | (with_reducible refine chain ?_ (by assumption) ?_) | omega | (simp; done) | (simp; omega)))

set_option maxRecDepth 100000 in
set_option maxHeartbeats 4000000 in
theorem eqm_i_c {r c r' c' : Int} {A B : Option Addr} {n m cp cp' : Nat} (hr : r = r') (hc : c ≠ c') (hb : n ≤ 1048576) (hb2 : m ≤ 1048576) (w : World) :
    Calls Try.prog 92 #[mv r c A n cp, mv r' c' B m cp'] w fun ee w' => ee = .returned (.bool false) ∧ Below w.heap.size w w' := by
  subst hr
  have h1 : (c == c') = false := by simpa using hc
  have h2 : (c != c') = true := by simpa using hc
  clear hc
  go_enter Try.func92, Try.ntmps92
  go_wp2_with (fail)
  go_ret
  refine ⟨rfl, ?_⟩
  (repeat' (first | (with_reducible exact Below.refl _ _) | (with_reducible assumption) | (with_reducible refine Below.alloc ?_ ?_ _) | (with_reducible refine Below.drew ?_) | (with_reducible refine below_drewN ?_ _) | (with_reducible refine Below.setCell ?_ ?_ _) | (with_reducible refine chain ?_ (by assumption) ?_) | omega | (simp; done) | (simp; omega)))

set_option maxRecDepth 100000 in
set_option maxHeartbeats 4000000 in
theorem eqm_i_n {r c r' c' : Int} {A B : Option Addr} {n m cp cp' : Nat} (hr : r = r') (hc : c = c') (hne : n ≠ m) (hb : n ≤ 1048576) (hb2 : m ≤ 1048576) (w : World) :
    Calls Try.prog 92 #[mv r c A n cp, mv r' c' B m cp'] w fun ee w' => ee = .returned (.bool false) ∧ Below w.heap.size w w' := by
  subst hr
  subst hc
  have h2 : ((n : Int) != (m : Int)) = true := by simp; omega
  have HE := hid hne
  clear hne
  go_enter Try.func92, Try.ntmps92
  go_wp2_with (fail)
  refine (sleq_n HE.out hb hb2).mono ?_
  rintro ee w1 ⟨rfl, hb1⟩
  go_wp2_with (fail)
  go_ret
  refine ⟨rfl, ?_⟩
  (repeat' (first | (with_reducible exact Below.refl _ _) | (with_reducible assumption) | (with_reducible refine Below.alloc ?_ ?_ _) | (with_reducible refine Below.drew ?_) | (with_reducible refine below_drewN ?_ _) | (with_reducible refine Below.setCell ?_ ?_ _) | (with_reducible refine chain ?_ (by assumption) ?_) | omega | (simp; done) | (simp; omega)))

set_option maxRecDepth 100000 in
set_option maxHeartbeats 4000000 in
theorem eqm_i_l {r c : Int} {A B : Option Addr} {n cp cp' : Nat} {xs ys : List D5} {w : World} (hA : Rd w A xs) (hB : Rd w B ys) (hn : xs.length = n) (hm : ys.length = n) (hb : n ≤ 1048576) :
    Calls Try.prog 92 #[mv r c A n cp, mv r c B n cp'] w fun ee w' => ee = .returned (.bool (eqL xs ys)) ∧ Below w.heap.size w w' := by
  have HA := hid hA
  have HB := hid hB
  have HN := hid hn
  have HM := hid hm
  clear hA hB hn hm
  go_enter Try.func92, Try.ntmps92
  go_wp2_with (fail)
  refine (sleq (xs := xs) (ys := ys) ?_ ?_ HN.out HM.out hb).mono ?_
  · exact HA.out.mono (by (repeat' (first | (with_reducible exact Below.refl _ _) | (with_reducible assumption) | (with_reducible refine Below.alloc ?_ ?_ _) | (with_reducible refine Below.drew ?_) | (with_reducible refine below_drewN ?_ _) | (with_reducible refine Below.setCell ?_ ?_ _) | (with_reducible refine chain ?_ (by assumption) ?_) | omega | (simp; done) | (simp; omega))))
  · exact HB.out.mono (by (repeat' (first | (with_reducible exact Below.refl _ _) | (with_reducible assumption) | (with_reducible refine Below.alloc ?_ ?_ _) | (with_reducible refine Below.drew ?_) | (with_reducible refine below_drewN ?_ _) | (with_reducible refine Below.setCell ?_ ?_ _) | (with_reducible refine chain ?_ (by assumption) ?_) | omega | (simp; done) | (simp; omega))))
  rintro ee w1 ⟨rfl, hb1⟩
  go_wp2_with (fail)
  go_ret
  refine ⟨rfl, ?_⟩
  (repeat' (first | (with_reducible exact Below.refl _ _) | (with_reducible assumption) | (with_reducible refine Below.alloc ?_ ?_ _) | (with_reducible refine Below.drew ?_) | (with_reducible refine below_drewN ?_ _) | (with_reducible refine Below.setCell ?_ ?_ _) | (with_reducible refine chain ?_ (by assumption) ?_) | omega | (simp; done) | (simp; omega)))

theorem eqm_i {r c r' c' : Int} {A B : Option Addr} {n m cp cp' : Nat} {xs ys : List D5} {w : World} (hA : Rd w A xs) (hB : Rd w B ys) (hn : xs.length = n) (hm : ys.length = m) (hb : n ≤ 1048576) (hb2 : m ≤ 1048576) :
    Calls Try.prog 92 #[mv r c A n cp, mv r' c' B m cp'] w fun ee w' => ee = .returned (.bool (eqM r c r' c' xs ys)) ∧ Below w.heap.size w w' := by
  by_cases hr : r = r'
  · by_cases hc : c = c'
    · subst hr hc
      have h : eqM r c r c xs ys = eqL xs ys := by unfold eqM; simp
      rw [h]
      by_cases hne : n = m
      · subst hne
        exact eqm_i_l hA hB hn hm hb
      · have h2 : eqL xs ys = false := eqL_len (by rw [hn, hm]; exact hne)
        rw [h2]
        exact eqm_i_n rfl rfl hne hb hb2 w
    · have h : eqM r c r' c' xs ys = false := by unfold eqM; simp [hc]
      rw [h]
      exact eqm_i_c hr hc hb hb2 w
  · have h : eqM r c r' c' xs ys = false := by unfold eqM; simp [hr]
    rw [h]
    exact eqm_i_r hr hb hb2 w

set_option maxRecDepth 100000 in
set_option maxHeartbeats 4000000 in
theorem eqm_s_r {r c r' c' : Int} {A B : Option Addr} {n m cp cp' : Nat} (hr : r ≠ r') (hb : n ≤ 1048576) (hb2 : m ≤ 1048576) (w : World) :
    Calls Try.prog 22 #[mv r c A n cp, mv r' c' B m cp'] w fun ee w' => ee = .returned (.bool false) ∧ Below w.heap.size w w' := by
  have h1 : (r == r') = false := by simpa using hr
  have h2 : (r != r') = true := by simpa using hr
  clear hr
  go_enter Try.func22, Try.ntmps22
  go_wp2_with (fail)
  go_ret
  refine ⟨rfl, ?_⟩
  (repeat' (first | (with_reducible exact Below.refl _ _) | (with_reducible assumption) | (with_reducible refine Below.alloc ?_ ?_ _) | (with_reducible refine Below.drew ?_) | (with_reducible refine below_drewN ?_ _) | (with_reducible refine Below.setCell ?_ ?_ _) | (with_reducible refine chain ?_ (by assumption) ?_) | omega | (simp; done) | (simp; omega)))

set_option maxRecDepth 100000 in
set_option maxHeartbeats 4000000 in
theorem eqm_s_c {r c r' c' : Int} {A B : Option Addr} {n m cp cp' : Nat} (hr : r = r') (hc : c ≠ c') (hb : n ≤ 1048576) (hb2 : m ≤ 1048576) (w : World) :
    Calls Try.prog 22 #[mv r c A n cp, mv r' c' B m cp'] w fun ee w' => ee = .returned (.bool false) ∧ Below w.heap.size w w' := by
  subst hr
  have h1 : (c == c') = false := by simpa using hc
  have h2 : (c != c') = true := by simpa using hc
  clear hc
  go_enter Try.func22, Try.ntmps22
  go_wp2_with (fail)
  go_ret
  refine ⟨rfl, ?_⟩
  (repeat' (first | (with_reducible exact Below.refl _ _) | (with_reducible assumption) | (with_reducible refine Below.alloc ?_ ?_ _) | (with_reducible refine Below.drew ?_) | (with_reducible refine below_drewN ?_ _) | (with_reducible refine Below.setCell ?_ ?_ _) | (with_reducible refine chain ?_ (by assumption) ?_) | omega | (simp; done) | (simp; omega)))

set_option maxRecDepth 100000 in
set_option maxHeartbeats 4000000 in
theorem eqm_s_n {r c r' c' : Int} {A B : Option Addr} {n m cp cp' : Nat} (hr : r = r') (hc : c = c') (hne : n ≠ m) (hb : n ≤ 1048576) (hb2 : m ≤ 1048576) (w : World) :
    Calls Try.prog 22 #[mv r c A n cp, mv r' c' B m cp'] w fun ee w' => ee = .returned (.bool false) ∧ Below w.heap.size w w' := by
  subst hr
  subst hc
  have h2 : ((n : Int) != (m : Int)) = true := by simp; omega
  have HE := hid hne
  clear hne
  go_enter Try.func22, Try.ntmps22
  go_wp2_with (fail)
  go_ret
  refine ⟨rfl, ?_⟩
  (repeat' (first | (with_reducible exact Below.refl _ _) | (with_reducible assumption) | (with_reducible refine Below.alloc ?_ ?_ _) | (with_reducible refine Below.drew ?_) | (with_reducible refine below_drewN ?_ _) | (with_reducible refine Below.setCell ?_ ?_ _) | (with_reducible refine chain ?_ (by assumption) ?_) | omega | (simp; done) | (simp; omega)))

set_option maxRecDepth 100000 in
set_option maxHeartbeats 4000000 in
theorem eqm_s_l {r c : Int} {A B : Option Addr} {n cp cp' : Nat} {xs ys : List D5} {w : World} (hA : Rd w A xs) (hB : Rd w B ys) (hn : xs.length = n) (hm : ys.length = n) (hb : n ≤ 1048576) :
    Calls Try.prog 22 #[mv r c A n cp, mv r c B n cp'] w fun ee w' => ee = .returned (.bool (eqL xs ys)) ∧ Below w.heap.size w w' := by
  have HA := hid hA
  have HB := hid hB
  have HN := hid hn
  have HM := hid hm
  clear hA hB hn hm
  go_enter Try.func22, Try.ntmps22
  go_wp2_with (fail)
  go_loopg [30] n (fun k s1 wr => ∃ j : Nat, j + k = n ∧ s1 = .int .i64 (j : Int) ∧ Hid (xs.take j = ys.take j) ∧ wr.cell? ⟨w.heap.size, 2, none⟩ = some (.slice A n cp) ∧ wr.cell? ⟨w.heap.size + 1, 2, none⟩ = some (.slice B n cp') ∧ Below w.heap.size w wr)
  case atStart => exact ⟨0, by omega, rfl, rfl, by first | rfl | (simp; done), by first | rfl | (simp; done), by (repeat' (first | (with_reducible exact Below.refl _ _) | (with_reducible assumption) | (with_reducible refine Below.alloc ?_ ?_ _) | (with_reducible refine Below.drew ?_) | (with_reducible refine below_drewN ?_ _) | (with_reducible refine Below.setCell ?_ ?_ _) | (with_reducible refine chain ?_ (by assumption) ?_) | omega | (simp; done) | (simp; omega)))⟩
  case round =>
    obtain ⟨j, hj, rfl, HJ, k0, k1, hB⟩ := hrel
    cases gk with
    | zero =>
      obtain rfl : j = n := by omega
      go_wp2_with (fail)
      go_ret
      exact ⟨by rw [eqL_end HN.out HM.out HJ.out]; rfl, hB⟩
    | succ m =>
      have hlt : j < n := by omega
      obtain ⟨x, hx⟩ : ∃ x, xs[j]? = some x := ⟨_, List.getElem?_eq_getElem (by rw [HN.out]; exact hlt)⟩
      obtain ⟨y, hy⟩ : ∃ y, ys[j]? = some y := ⟨_, List.getElem?_eq_getElem (by rw [HM.out]; exact hlt)⟩
      obtain ⟨g, o, rfl, hC⟩ := HA.out j x hx
      obtain ⟨g', o', rfl, hC'⟩ := HB.out j y hy
      have HX := hid hx
      have HY := hid hy
      clear hx hy
      obtain ⟨q0, q1, q2, q3, q4⟩ := hC.at_ (hB.block g hC.lt)
      obtain ⟨p0, p1, p2, p3, p4⟩ := hC'.at_ (hB.block g' hC'.lt)
      clear hC hC'
      by_cases hxy : x = y
      · subst hxy
        have hop := neq_f x
        go_wp2_with (fail)
        go_quiet (fail)
        go_wp2_with (fail)
        go_roundg m
        case measure => omega
        case rel => exact ⟨j + 1, by omega, by go_num, take_eq HX.out HY.out HJ.out, k0, k1, by (repeat' (first | (with_reducible exact Below.refl _ _) | (with_reducible assumption) | (with_reducible refine Below.alloc ?_ ?_ _) | (with_reducible refine Below.drew ?_) | (with_reducible refine below_drewN ?_ _) | (with_reducible refine Below.setCell ?_ ?_ _) | (with_reducible refine chain ?_ (by assumption) ?_) | omega | (simp; done) | (simp; omega)))⟩
      · have HNE := hid hxy
        have hop := neq_t hxy
        clear hxy
        go_wp2_with (fail)
        go_quiet (fail)
        go_wp2_with (fail)
        go_ret
        refine ⟨by rw [eqL_at HX.out HY.out HNE.out]; rfl, ?_⟩
        (repeat' (first | (with_reducible exact Below.refl _ _) | (with_reducible assumption) | (with_reducible refine Below.alloc ?_ ?_ _) | (with_reducible refine Below.drew ?_) | (with_reducible refine below_drewN ?_ _) | (with_reducible refine Below.setCell ?_ ?_ _) | (with_reducible refine chain ?_ (by assumption) ?_) | omega | (simp; done) | (simp; omega)))

theorem eqm_s {r c r' c' : Int} {A B : Option Addr} {n m cp cp' : Nat} {xs ys : List D5} {w : World} (hA : Rd w A xs) (hB : Rd w B ys) (hn : xs.length = n) (hm : ys.length = m) (hb : n ≤ 1048576) (hb2 : m ≤ 1048576) :
    Calls Try.prog 22 #[mv r c A n cp, mv r' c' B m cp'] w fun ee w' => ee = .returned (.bool (eqM r c r' c' xs ys)) ∧ Below w.heap.size w w' := by
  by_cases hr : r = r'
  · by_cases hc : c = c'
    · subst hr hc
      have h : eqM r c r c xs ys = eqL xs ys := by unfold eqM; simp
      rw [h]
      by_cases hne : n = m
      · subst hne
        exact eqm_s_l hA hB hn hm hb
      · have h2 : eqL xs ys = false := eqL_len (by rw [hn, hm]; exact hne)
        rw [h2]
        exact eqm_s_n rfl rfl hne hb hb2 w
    · have h : eqM r c r' c' xs ys = false := by unfold eqM; simp [hc]
      rw [h]
      exact eqm_s_c hr hc hb hb2 w
  · have h : eqM r c r' c' xs ys = false := by unfold eqM; simp [hr]
    rw [h]
    exact eqm_s_r hr hb hb2 w

end Go.Proofs.Ytncgccpkbneagaa
