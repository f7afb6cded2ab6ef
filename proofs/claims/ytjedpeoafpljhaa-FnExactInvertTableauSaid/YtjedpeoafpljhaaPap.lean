/- Two slices that a call makes. -/
import Derived.Test.YtjedpeoafpljhaaPts
import Derived.Test.YtjedpeoafpljhaaPn
import Derived.Test.YtjedpeoafpljhaaQAp
namespace Go.Proofs.Ytjedpeoafpljhaa.C4
open Go.RowKit
set_option linter.unusedVariables false
set_option linter.unusedSimpArgs false
attribute [local irreducible] World.setCell

/-- two slices that the call made, that share nothing -/
def Ow2 (W : World) (B : Nat) (vx vz : Value) (xs zs : List PauliV) : Prop := Own pauliE W B 43 vx xs ∧ Own pauliE W B 43 vz zs ∧ ∀ b, vx.ownBlock = some b → vz.ownBlock ≠ some b
section
variable {W W' : World} {B : Nat} {vx vz : Value} {xs zs : List PauliV}
theorem Ow2.kept {row : Option Nat} (h : Ow2 W B vx vz xs zs) (hg : W.grownBy W' row) (hr : ∀ r, row = some r → r < B) : Ow2 W' B vx vz xs zs := by
  have ne : ∀ {v : Value} {l : List PauliV}, Own pauliE W B 43 v l → v.ownBlock = none ∨ v.ownBlock ≠ row := by
    intro v l ho
    cases hv : v.ownBlock with
    | none => exact Or.inl rfl
    | some k =>
      refine Or.inr (fun e => ?_)
      have h1 := (ho.lt k hv).1
      have h2 := hr k e.symm
      omega
  exact ⟨h.1.kept hg (ne h.1), h.2.1.kept hg (ne h.2.1), h.2.2⟩
theorem Ow2.mono (h : Ow2 W B vx vz xs zs) (hb : Below W.heap.size W W') : Ow2 W' B vx vz xs zs := h.kept (row := none) (grwB hb) (fun r hr => by cases hr)
theorem Ow2.alloc (h : Ow2 W B vx vz xs zs) (o : Obj) : Ow2 (W.alloc o) B vx vz xs zs := h.mono ((Below.refl _ _).alloc (Nat.le_refl _) _)
theorem Ow2.drew (h : Ow2 W B vx vz xs zs) : Ow2 W.drew B vx vz xs zs := h
theorem Ow2.far (h : Ow2 W B vx vz xs zs) {p : Addr} (hp : p.block < B) (u : Value) : Ow2 (W.setCell p u) B vx vz xs zs := ⟨h.1.far hp u, h.2.1.far hp u, h.2.2⟩
theorem Ow2.appX {vx' : Value} {x : PauliV} (h : Ow2 W B vx vz xs zs) (h1 : Own pauliE W' B 43 vx' (xs ++ [x])) (hg : W.grownBy W' vx.ownBlock) (hat : vx'.ownBlock = vx.ownBlock ∨ vx'.ownBlock = some W.heap.size) : Ow2 W' B vx' vz (xs ++ [x]) zs := by
  refine ⟨h1, h.2.1.kept hg ?_, fun b hb => ?_⟩
  · cases hv : vz.ownBlock with
    | none => exact Or.inl rfl
    | some k => exact Or.inr (fun e => h.2.2 k e.symm hv)
  · rcases hat with e | e
    · exact h.2.2 b (by rw [← e]; exact hb)
    · rw [e] at hb
      cases hb
      intro e2
      have := (h.2.1.lt _ e2).2
      omega
theorem Ow2.appZ {vz' : Value} {z : PauliV} (h : Ow2 W B vx vz xs zs) (h1 : Own pauliE W' B 43 vz' (zs ++ [z])) (hg : W.grownBy W' vz.ownBlock) (hat : vz'.ownBlock = vz.ownBlock ∨ vz'.ownBlock = some W.heap.size) : Ow2 W' B vx vz' xs (zs ++ [z]) := by
  refine ⟨h.1.kept hg ?_, h1, fun b hb => ?_⟩
  · cases hv : vx.ownBlock with
    | none => exact Or.inl rfl
    | some k => exact Or.inr (fun e => h.2.2 k hv e.symm)
  · rcases hat with e | e
    · rw [e]; exact h.2.2 b hb
    · rw [e]
      intro e2
      cases e2
      have := (h.1.lt _ hb).2
      omega
end
theorem all_set1 {α : Type} {E : Enc α} {xs : List α} {k i : Nat} {x y : α} {v : Value} (hx : xs[k]? = some x) (hi : i < E.n) (hc : E.cs y = (E.cs x).set i v) : E.all (xs.set k y) = (E.all xs).set (k * E.n + i) v := by
  have hk : k < xs.length := (List.getElem?_eq_some_iff.1 hx).1
  have hlen : (E.all (xs.set k y)).length = ((E.all xs).set (k * E.n + i) v).length := by rw [List.length_set, Enc.all_len, Enc.all_len, List.length_set]
  refine List.ext_getElem? (fun p => ?_)
  cases hu : (E.all (xs.set k y))[p]? with
  | none =>
    rw [List.getElem?_eq_none_iff] at hu
    rw [List.getElem?_eq_none_iff.2 (by rw [← hlen]; exact hu)]
  | some u =>
    obtain ⟨q, j, z, rfl, hz, hj⟩ := Enc.all_inv hu
    have hjn : j < E.n := by rw [← E.len z]; exact (List.getElem?_eq_some_iff.1 hj).1
    by_cases e : q = k
    · subst e
      rw [List.getElem?_set_self hk] at hz
      cases hz
      rw [hc] at hj
      by_cases e2 : j = i
      · subst e2
        rw [List.getElem?_set_self (by rw [E.len]; exact hi)] at hj
        cases hj
        rw [List.getElem?_set_self]
        rw [Enc.all_len]
        calc q * E.n + j < q * E.n + E.n := by omega
          _ = (q + 1) * E.n := (Nat.succ_mul q E.n).symm
          _ ≤ xs.length * E.n := Nat.mul_le_mul_right _ hk
      · rw [List.getElem?_set_ne (fun h => e2 h.symm)] at hj
        rw [List.getElem?_set_ne (by omega)]
        exact (Enc.all_get hx hj).symm
    · rw [List.getElem?_set_ne (fun h => e h.symm)] at hz
      have hne : k * E.n + i ≠ q * E.n + j := by
        intro h
        rcases Nat.lt_or_gt_of_ne e with h1 | h1
        · have : (q + 1) * E.n ≤ k * E.n := Nat.mul_le_mul_right _ h1
          rw [Nat.succ_mul] at this
          omega
        · have : (k + 1) * E.n ≤ q * E.n := Nat.mul_le_mul_right _ h1
          rw [Nat.succ_mul] at this
          omega
      rw [List.getElem?_set_ne hne]
      exact (Enc.all_get hz hj).symm
/-- one cell of an element is stored -/
theorem Bk.set1 {α : Type} {E : Enc α} {W : World} {g : Nat} {t : TypeId} {xs : List α} {k i p : Nat} {x y : α} {v : Value} (h : Bk E W g t xs) (hx : xs[k]? = some x) (hi : i < E.n) (hc : E.cs y = (E.cs x).set i v) (hp : p = k * E.n + i) : Bk E (W.setCell ⟨g, p, none⟩ v) g t (xs.set k y) := by
  subst hp
  have h1 := setN_heap (W := W) (g := g) (o := k * E.n + i) [v] h
  have h2 : setN W g (k * E.n + i) [v] = W.setCell ⟨g, k * E.n + i, none⟩ v := rfl
  rw [h2] at h1
  have hl : k * E.n + i + [v].length ≤ (E.all xs).length := by
    rw [Enc.all_len, List.length_singleton]
    have hk : k < xs.length := (List.getElem?_eq_some_iff.1 hx).1
    have : (k + 1) * E.n ≤ xs.length * E.n := Nat.mul_le_mul_right _ hk
    rw [Nat.succ_mul] at this
    omega
  rw [setL_eq _ _ _ hl] at h1
  show _ = _
  rw [h1, all_set1 hx hi hc]
  congr 2
  rw [List.set_eq_take_append_cons_drop, if_pos (by rw [List.length_singleton] at hl; omega)]
  simp
end Go.Proofs.Ytjedpeoafpljhaa.C4
