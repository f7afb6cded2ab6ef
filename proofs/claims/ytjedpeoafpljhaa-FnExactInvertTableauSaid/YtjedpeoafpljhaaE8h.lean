/- Powers of tableaux: words. -/
import Derived.Test.YtjedpeoafpljhaaPcd
import Derived.Test.YtjedpeoafpljhaaPk
namespace Go.Proofs.Ytjedpeoafpljhaa.C4
open Go.RowKit
set_option linter.unusedVariables false
set_option linter.unusedSimpArgs false
attribute [local irreducible] World.setCell

theorem imgS_ok {n px pz p0 k : Nat} {xs zs : List PauliV} (hx : okL n xs) (hz : okL n zs) (hp : p0 < 4) (hk : k ≤ n) : okS n (imgS px pz xs zs p0 k) := by
  induction k with
  | zero => exact ⟨hp, Nat.two_pow_pos n, Nat.two_pow_pos n⟩
  | succ k ih =>
    have h0 := ih (by omega)
    obtain ⟨pX, aX, bX, -, -, aX2, bX2, nX⟩ := okL_at hx (show k < n by omega)
    obtain ⟨pZ, aZ, bZ, -, -, aZ2, bZ2, nZ⟩ := okL_at hz (show k < n by omega)
    rcases lt_c px pz k with hl | hl | hl | hl
    · rw [imgS_0 hl]; exact h0
    · rw [← imgS_1 hl rfl nX]; exact okS_mul h0.2 ⟨aX2, bX2⟩
    · rw [← imgS_2 hl rfl nZ]; exact okS_mul h0.2 ⟨aZ2, bZ2⟩
    · rw [← imgS_3 hl rfl nX nZ]
      have h1 : okS n (mulN (imgS px pz xs zs p0 k) (pX, aX, bX)) := okS_mul h0.2 ⟨aX2, bX2⟩
      have h2 : okS n (mulN (mulN (imgS px pz xs zs p0 k) (pX, aX, bX)) (pZ, aZ, bZ)) := okS_mul h1.2 ⟨aZ2, bZ2⟩
      exact ⟨Nat.mod_lt _ (by decide), h2.2⟩
theorem okL_tab {n : Nat} {F : Nat → PauliV} (h : ∀ q, q < n → pB (n : Int) (F q) = true) : okL n (tab n F) := by
  refine ⟨tab_len _ _, fun k x hx => ?_⟩
  have hk : k < n := by have := (List.getElem?_eq_some_iff.1 hx).1; rwa [tab_len] at this
  rw [tab_get hk] at hx
  cases hx
  exact h k hk
theorem okL_th {n : Nat} {us vs xs : List PauliV} (q1 : 1 ≤ n) (q5 : n ≤ 5) (hu : okL n us) (hv : okL n vs) (hx : okL n xs) : okL n (tab n (thF n us vs xs)) := by
  refine okL_tab (fun q hq => ?_)
  obtain ⟨p, a, b, -, hp, -, -, hn⟩ := okL_at hx hq
  unfold thF imV
  rw [hn]
  have h := imgS_ok (px := a) (pz := b) (p0 := p) (k := n) hu hv (by omega) (Nat.le_refl n)
  exact pB_of q1 q5 (Nat.le_of_lt_succ h.1) h.2.1 h.2.2
theorem okL_genX {n : Nat} (q1 : 1 ≤ n) (q5 : n ≤ 5) : okL n (tab n genX) := okL_tab (fun q hq => pB_of q1 q5 (by omega) (Nat.pow_lt_pow_right (by decide) hq) (Nat.two_pow_pos n))
theorem okL_genZ {n : Nat} (q1 : 1 ≤ n) (q5 : n ≤ 5) : okL n (tab n genZ) := okL_tab (fun q hq => pB_of q1 q5 (by omega) (Nat.two_pow_pos n) (Nat.pow_lt_pow_right (by decide) hq))
/-- the powers of a tableau -/
def pwT (n : Nat) (xs zs : List PauliV) : Nat → List PauliV × List PauliV
  | 0 => (xs, zs)
  | k + 1 => (tab n (thF n xs zs (pwT n xs zs k).1), tab n (thF n xs zs (pwT n xs zs k).2))
theorem pwT_ok {n : Nat} {xs zs : List PauliV} (q1 : 1 ≤ n) (q5 : n ≤ 5) (hx : okL n xs) (hz : okL n zs) (k : Nat) : okL n (pwT n xs zs k).1 ∧ okL n (pwT n xs zs k).2 := by
  induction k with
  | zero => exact ⟨hx, hz⟩
  | succ k ih => exact ⟨okL_th q1 q5 hx hz ih.1, okL_th q1 q5 hx hz ih.2⟩
def isI (n : Nat) (p : List PauliV × List PauliV) : Prop := p.1 = tab n genX ∧ p.2 = tab n genZ
/-- what OrderOf answers: the first power that is the identity -/
def ordA (n : Nat) (xs zs : List PauliV) (r0 : Int) (r1 : Bool) : Prop := ∀ k, k ≤ 1000 → (∀ j, j < k → ¬ isI n (pwT n xs zs j)) → ((k < 1000 → isI n (pwT n xs zs k) → r0 = ((k + 1 : Nat) : Int) ∧ r1 = true) ∧ (k = 1000 → r0 = 0 ∧ r1 = false))
theorem leastN {P : Nat → Prop} (h : ∃ k, P k) : ∃ k, P k ∧ ∀ j, j < k → ¬ P j := by
  obtain ⟨k, hk⟩ := h
  induction k using Nat.strongRecOn with
  | ind k ih =>
    by_cases h : ∃ j, j < k ∧ P j
    · obtain ⟨j, hj, hp⟩ := h
      exact ih j hj hp
    · exact ⟨k, hk, fun j hj hp => h ⟨j, hj, hp⟩⟩
theorem ordA_ex (n : Nat) (xs zs : List PauliV) : ∃ r0 r1, ordA n xs zs r0 r1 := by
  by_cases h : ∃ k, k < 1000 ∧ isI n (pwT n xs zs k)
  · obtain ⟨k0, ⟨h1, h2⟩, h3⟩ := leastN h
    refine ⟨((k0 + 1 : Nat) : Int), true, fun k hk hj => ⟨fun hl hi => ?_, fun e => ?_⟩⟩
    · have e : k = k0 := by
        rcases Nat.lt_trichotomy k k0 with c | c | c
        · exact absurd ⟨hl, hi⟩ (h3 k c)
        · exact c
        · exact absurd h2 (hj k0 c)
      subst e
      exact ⟨rfl, rfl⟩
    · exact absurd h2 (hj k0 (by omega))
  · exact ⟨0, false, fun k hk hj => ⟨fun hl hi => absurd ⟨k, hl, hi⟩ h, fun _ => ⟨rfl, rfl⟩⟩⟩
theorem isI_no {n k : Nat} {xs zs : List PauliV} (h : ∀ j, j < k → ¬ isI n (pwT n xs zs j)) (h2 : ¬ isI n (pwT n xs zs k)) : ∀ j, j < k + 1 → ¬ isI n (pwT n xs zs j) := by
  intro j hj
  by_cases e : j = k
  · subst e; exact h2
  · exact h j (by omega)
theorem PhM.alloc {m r : Nat} {W : World} (h : PhM m W r) (o : Obj) : PhM m (W.alloc o) r := h.mono ((Below.refl _ _).alloc (Nat.le_refl _) _)
theorem Bb.set3 {W : World} {b : Nat} {t : TypeId} {x y z v0 v1 v2 : Value} (h : Bb W b t #[x, y, z]) : Bb (((W.setCell ⟨b, 0, none⟩ v0).setCell ⟨b, 1, none⟩ v1).setCell ⟨b, 2, none⟩ v2) b t #[v0, v1, v2] := ((h.set rfl).set rfl).set rfl
theorem PhM.low {W W' : World} {k r : Nat} (h : W.heap.size ≤ r) (hk : k < W.heap.size) : k ≠ r := by omega
end Go.Proofs.Ytjedpeoafpljhaa.C4
