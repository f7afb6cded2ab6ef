/- Pauli operators as values. -/
import Derived.Test.YtjedpeoafpljhaaQFlat
namespace Go.Proofs.Ytjedpeoafpljhaa.C4
open Go.RowKit
set_option linter.unusedVariables false
set_option linter.unusedSimpArgs false
attribute [local irreducible] World.setCell

structure PauliV where
  f0 : Int
  f1 : Int
  f2 : Int
abbrev PauliV.v (x : PauliV) : Value := .agg #[.int .i64 x.f0, .int .i64 x.f1, .int .i64 x.f2]
def PauliV.cs (x : PauliV) : List Value := [.int .i64 x.f0, .int .i64 x.f1, .int .i64 x.f2]
def pauliE : Enc PauliV := ⟨3, PauliV.cs, fun _ => rfl, by decide, fun x v h => by
  simp only [PauliV.cs, List.mem_cons, List.not_mem_nil, or_false] at h
  rcases h with rfl | rfl | rfl <;> rfl⟩
def PauliV.z : PauliV := ⟨0, 0, 0⟩
theorem Ex.atPauli {W : World} {g o : Nat} {x : PauliV} (h : Ex pauliE W g o x) : W.cell? ⟨g, o, none⟩ = some (.int .i64 x.f0) ∧ W.cell? ⟨g, o + 1, none⟩ = some (.int .i64 x.f1) ∧ W.cell? ⟨g, o + 2, none⟩ = some (.int .i64 x.f2) := ⟨h 0 _ rfl, h 1 _ rfl, h 2 _ rfl⟩
theorem Rd.atPauli {W : World} {A : Option Addr} {xs : List PauliV} (h : Rd pauliE W A xs) {k : Nat} {x : PauliV} (hx : xs[k]? = some x) : ∃ g o, A = some ⟨g, o, none⟩ ∧ g < W.heap.size ∧ W.cell? ⟨g, o + k * 3, none⟩ = some (.int .i64 x.f0) ∧ W.cell? ⟨g, o + k * 3 + 1, none⟩ = some (.int .i64 x.f1) ∧ W.cell? ⟨g, o + k * 3 + 2, none⟩ = some (.int .i64 x.f2) := by
  obtain ⟨g, o, e, hc⟩ := h k x hx
  have he : o + k * pauliE.n = o + k * 3 := rfl
  rw [he] at hc
  exact ⟨g, o, e, hc.lt, hc.atPauli⟩
theorem Bk.atPauli {W : World} {g : Nat} {t : TypeId} {xs : List PauliV} (h : Bk pauliE W g t xs) {k : Nat} {x : PauliV} (hx : xs[k]? = some x) : W.cell? ⟨g, k * 3, none⟩ = some (.int .i64 x.f0) ∧ W.cell? ⟨g, k * 3 + 1, none⟩ = some (.int .i64 x.f1) ∧ W.cell? ⟨g, k * 3 + 2, none⟩ = some (.int .i64 x.f2) := by
  have hc := h.ex hx
  have he : k * pauliE.n = k * 3 := rfl
  rw [he] at hc
  exact hc.atPauli
theorem Bs.atPauli {W : World} {g : Nat} {t : TypeId} {xs : List PauliV} (h : Bs pauliE W g t xs) {k : Nat} {x : PauliV} (hx : xs[k]? = some x) : W.cell? ⟨g, k * 3, none⟩ = some (.int .i64 x.f0) ∧ W.cell? ⟨g, k * 3 + 1, none⟩ = some (.int .i64 x.f1) ∧ W.cell? ⟨g, k * 3 + 2, none⟩ = some (.int .i64 x.f2) := by
  have hc := h.ex hx
  have he : k * pauliE.n = k * 3 := rfl
  rw [he] at hc
  exact hc.atPauli
theorem Bk.stPauli {W : World} {g : Nat} {t : TypeId} {xs : List PauliV} (h : Bk pauliE W g t xs) {k : Nat} (x : PauliV) (hk : k < xs.length) : Bk pauliE (((W.setCell ⟨g, k * 3, none⟩ (.int .i64 x.f0)).setCell ⟨g, k * 3 + 1, none⟩ (.int .i64 x.f1)).setCell ⟨g, k * 3 + 2, none⟩ (.int .i64 x.f2)) g t (xs.set k x) := by
  have h1 := h.set x hk
  have he : k * pauliE.n = k * 3 := rfl
  rw [he] at h1
  exact h1
theorem Bs.stPauli {W : World} {g : Nat} {t : TypeId} {xs : List PauliV} (h : Bs pauliE W g t xs) {k : Nat} (x : PauliV) (hk : k < xs.length) : Bs pauliE (((W.setCell ⟨g, k * 3, none⟩ (.int .i64 x.f0)).setCell ⟨g, k * 3 + 1, none⟩ (.int .i64 x.f1)).setCell ⟨g, k * 3 + 2, none⟩ (.int .i64 x.f2)) g t (xs.set k x) := by
  have h1 := h.set x hk
  have he : k * pauliE.n = k * 3 := rfl
  rw [he] at h1
  exact h1
/-- the marks of element j -/
def PauliV.mark (k : Int) (j : Nat) : PauliV := ⟨k + 3 * (j : Int), k + 3 * (j : Int) + 1, k + 3 * (j : Int) + 1 + 1⟩
end Go.Proofs.Ytjedpeoafpljhaa.C4
