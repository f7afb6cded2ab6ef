/- The flat types of chapter 4: gates, integers. -/
import Derived.Test.YtjedpeoafpljhaaQEn
namespace Go.Proofs.Ytjedpeoafpljhaa.C4
open Go.RowKit
set_option linter.unusedVariables false
set_option linter.unusedSimpArgs false
attribute [local irreducible] World.setCell

structure GateV where
  f0 : Int
  f1 : Int
  f2 : Int
abbrev GateV.v (x : GateV) : Value := .agg #[.int .i64 x.f0, .int .i64 x.f1, .int .i64 x.f2]
def GateV.cs (x : GateV) : List Value := [.int .i64 x.f0, .int .i64 x.f1, .int .i64 x.f2]
def gateE : Enc GateV := ⟨3, GateV.cs, fun _ => rfl, by decide, fun x v h => by
  simp only [GateV.cs, List.mem_cons, List.not_mem_nil, or_false] at h
  rcases h with rfl | rfl | rfl <;> rfl⟩
def GateV.z : GateV := ⟨0, 0, 0⟩
theorem Ex.atGate {W : World} {g o : Nat} {x : GateV} (h : Ex gateE W g o x) : W.cell? ⟨g, o, none⟩ = some (.int .i64 x.f0) ∧ W.cell? ⟨g, o + 1, none⟩ = some (.int .i64 x.f1) ∧ W.cell? ⟨g, o + 2, none⟩ = some (.int .i64 x.f2) := ⟨h 0 _ rfl, h 1 _ rfl, h 2 _ rfl⟩
theorem Rd.atGate {W : World} {A : Option Addr} {xs : List GateV} (h : Rd gateE W A xs) {k : Nat} {x : GateV} (hx : xs[k]? = some x) : ∃ g o, A = some ⟨g, o, none⟩ ∧ g < W.heap.size ∧ W.cell? ⟨g, o + k * 3, none⟩ = some (.int .i64 x.f0) ∧ W.cell? ⟨g, o + k * 3 + 1, none⟩ = some (.int .i64 x.f1) ∧ W.cell? ⟨g, o + k * 3 + 2, none⟩ = some (.int .i64 x.f2) := by
  obtain ⟨g, o, e, hc⟩ := h k x hx
  have he : o + k * gateE.n = o + k * 3 := rfl
  rw [he] at hc
  exact ⟨g, o, e, hc.lt, hc.atGate⟩
theorem Bk.atGate {W : World} {g : Nat} {t : TypeId} {xs : List GateV} (h : Bk gateE W g t xs) {k : Nat} {x : GateV} (hx : xs[k]? = some x) : W.cell? ⟨g, k * 3, none⟩ = some (.int .i64 x.f0) ∧ W.cell? ⟨g, k * 3 + 1, none⟩ = some (.int .i64 x.f1) ∧ W.cell? ⟨g, k * 3 + 2, none⟩ = some (.int .i64 x.f2) := by
  have hc := h.ex hx
  have he : k * gateE.n = k * 3 := rfl
  rw [he] at hc
  exact hc.atGate
theorem Bs.atGate {W : World} {g : Nat} {t : TypeId} {xs : List GateV} (h : Bs gateE W g t xs) {k : Nat} {x : GateV} (hx : xs[k]? = some x) : W.cell? ⟨g, k * 3, none⟩ = some (.int .i64 x.f0) ∧ W.cell? ⟨g, k * 3 + 1, none⟩ = some (.int .i64 x.f1) ∧ W.cell? ⟨g, k * 3 + 2, none⟩ = some (.int .i64 x.f2) := by
  have hc := h.ex hx
  have he : k * gateE.n = k * 3 := rfl
  rw [he] at hc
  exact hc.atGate
theorem Bk.stGate {W : World} {g : Nat} {t : TypeId} {xs : List GateV} (h : Bk gateE W g t xs) {k : Nat} (x : GateV) (hk : k < xs.length) : Bk gateE (((W.setCell ⟨g, k * 3, none⟩ (.int .i64 x.f0)).setCell ⟨g, k * 3 + 1, none⟩ (.int .i64 x.f1)).setCell ⟨g, k * 3 + 2, none⟩ (.int .i64 x.f2)) g t (xs.set k x) := by
  have h1 := h.set x hk
  have he : k * gateE.n = k * 3 := rfl
  rw [he] at h1
  exact h1
theorem Bs.stGate {W : World} {g : Nat} {t : TypeId} {xs : List GateV} (h : Bs gateE W g t xs) {k : Nat} (x : GateV) (hk : k < xs.length) : Bs gateE (((W.setCell ⟨g, k * 3, none⟩ (.int .i64 x.f0)).setCell ⟨g, k * 3 + 1, none⟩ (.int .i64 x.f1)).setCell ⟨g, k * 3 + 2, none⟩ (.int .i64 x.f2)) g t (xs.set k x) := by
  have h1 := h.set x hk
  have he : k * gateE.n = k * 3 := rfl
  rw [he] at h1
  exact h1
/-- the marks of element j -/
def GateV.mark (k : Int) (j : Nat) : GateV := ⟨k + 3 * (j : Int), k + 3 * (j : Int) + 1, k + 3 * (j : Int) + 1 + 1⟩

def intE : Enc Int := ⟨1, fun x => [.int .i64 x], fun _ => rfl, by decide, fun x v h => by
  simp only [List.mem_cons, List.not_mem_nil, or_false] at h
  rcases h with rfl; rfl⟩
theorem Ex.atInt {W : World} {g o : Nat} {x : Int} (h : Ex intE W g o x) : W.cell? ⟨g, o, none⟩ = some (.int .i64 x) := h 0 _ rfl
theorem Rd.atInt {W : World} {A : Option Addr} {xs : List Int} (h : Rd intE W A xs) {k : Nat} {x : Int} (hx : xs[k]? = some x) : ∃ g o, A = some ⟨g, o, none⟩ ∧ g < W.heap.size ∧ W.cell? ⟨g, o + k, none⟩ = some (.int .i64 x) := by
  obtain ⟨g, o, e, hc⟩ := h k x hx
  have he : o + k * intE.n = o + k := by show o + k * 1 = _; rw [Nat.mul_one]
  rw [he] at hc
  exact ⟨g, o, e, hc.lt, hc.atInt⟩
theorem Bk.atInt {W : World} {g : Nat} {t : TypeId} {xs : List Int} (h : Bk intE W g t xs) {k : Nat} {x : Int} (hx : xs[k]? = some x) : W.cell? ⟨g, k, none⟩ = some (.int .i64 x) := by
  have hc := h.ex hx
  have he : k * intE.n = k := Nat.mul_one k
  rw [he] at hc
  exact hc.atInt
theorem Bs.atInt {W : World} {g : Nat} {t : TypeId} {xs : List Int} (h : Bs intE W g t xs) {k : Nat} {x : Int} (hx : xs[k]? = some x) : W.cell? ⟨g, k, none⟩ = some (.int .i64 x) := by
  have hc := h.ex hx
  have he : k * intE.n = k := Nat.mul_one k
  rw [he] at hc
  exact hc.atInt
theorem Bk.stInt {W : World} {g : Nat} {t : TypeId} {xs : List Int} (h : Bk intE W g t xs) {k : Nat} (x : Int) (hk : k < xs.length) : Bk intE (W.setCell ⟨g, k, none⟩ (.int .i64 x)) g t (xs.set k x) := by
  have h1 := h.set x hk
  have he : k * intE.n = k := Nat.mul_one k
  rw [he] at h1
  exact h1
theorem Bs.stInt {W : World} {g : Nat} {t : TypeId} {xs : List Int} (h : Bs intE W g t xs) {k : Nat} (x : Int) (hk : k < xs.length) : Bs intE (W.setCell ⟨g, k, none⟩ (.int .i64 x)) g t (xs.set k x) := by
  have h1 := h.set x hk
  have he : k * intE.n = k := Nat.mul_one k
  rw [he] at h1
  exact h1
/-- the marks of element j -/
def intMark (k : Int) (j : Nat) : Int := k + (j : Int)
end Go.Proofs.Ytjedpeoafpljhaa.C4
