/- Texts of circuits: the gates' lines. -/
import Derived.Test.YtdbnjoeanoiifaaDoorFo
import Derived.Test.YtdbnjoeanoiifaaDoorGv
import Derived.Test.YtdbnjoeanoiifaaDoorBs
namespace Go.Proofs.YtdbnjoeanoiifaaDoor
open Go.RowKit
set_option linter.unusedVariables false
set_option linter.unusedSimpArgs false
attribute [local irreducible] World.setCell

/-- a gate's text -/
def gtx (g : GateV) : ByteArray := fgT g.f0.toNat g.f1.toNat g.f2.toNat (qa g).toNat
theorem gtx_size (g : GateV) : (gtx g).size ≤ 8 := fgT_size
theorem gB_five {q : Int} {g : GateV} (h : gB q g = true) (hq : q ≤ 5) : gB 5 g = true := by
  unfold gB at *
  split at h
  · rename_i hk; rw [if_pos hk]; simp only [decide_eq_true_eq] at *; omega
  · rename_i hk; rw [if_neg hk]
    split at h
    · rename_i hk2; rw [if_pos hk2]; simp only [decide_eq_true_eq] at *; omega
    · rename_i hk2; rw [if_neg hk2]; exact h
/-- both write a valid gate alike -/
theorem gtx_both {g : GateV} (h : gB 5 g = true) : (∀ W, Calls Tryd.prog 54 #[g.v] W fun ee w' => ee = .returned (.string (gtx g)) ∧ Below W.heap.size W w') ∧
    (∀ W, (∀ i, i ≤ 12 → W.cell? ⟨0, i, none⟩ = some (.string (gnm i))) → Calls Tryd.prog 76 #[g.v] W fun ee w' => ee = .returned (.tuple #[.string (gtx g), .bool true]) ∧ Below W.heap.size W w') := by
  have hv : vgB 5 g = true := by unfold vgB; rw [h]; decide
  obtain ⟨f0, f1, f2⟩ := g
  have hh := h
  unfold gB at hh
  dsimp only at hh
  split at hh
  · rename_i h0
    simp only [decide_eq_true_eq] at hh
    obtain ⟨x1, x2, rfl⟩ := hh
    obtain ⟨k, rfl⟩ := Int.eq_ofNat_of_zero_le (show 0 ≤ f0 by omega)
    obtain ⟨a, rfl⟩ := Int.eq_ofNat_of_zero_le x1
    have e : gtx ⟨(k : Int), (a : Int), 0⟩ = fgT k a 0 1 := by
      unfold gtx; rw [qa_8 (inB_t (by dsimp only; omega) (by dsimp only; omega))]; rfl
    rw [e]
    exact ⟨fun W => lt_1 (b := 0) (by omega) (by omega) (by omega) (by omega) (by omega) W, fun W hG => fi_t (b := 0) (q := 1) (by omega) (by omega) (by omega) (by omega) hv (qa_8 (inB_t (by dsimp only; omega) (by dsimp only; omega))) (by omega) W hG⟩
  · split at hh
    · rename_i h0
      simp only [decide_eq_true_eq] at hh
      obtain ⟨x1, x2, x3, x4, x5⟩ := hh
      obtain ⟨k, rfl⟩ := Int.eq_ofNat_of_zero_le (show 0 ≤ f0 by omega)
      obtain ⟨a, rfl⟩ := Int.eq_ofNat_of_zero_le x1
      obtain ⟨b, rfl⟩ := Int.eq_ofNat_of_zero_le x3
      have e : gtx ⟨(k : Int), (a : Int), (b : Int)⟩ = fgT k a b 2 := by
        unfold gtx; rw [qa_11 (inB_t (by dsimp only; omega) (by dsimp only; omega))]; rfl
      rw [e]
      exact ⟨fun W => lt_2 (by omega) (by omega) (by omega) (by omega) ⟨by omega, by omega⟩ W, fun W hG => fi_t (q := 2) (by omega) (by omega) (by omega) (by omega) hv (qa_11 (inB_t (by dsimp only; omega) (by dsimp only; omega))) (by omega) W hG⟩
    · simp only [decide_eq_true_eq] at hh
      obtain ⟨rfl, rfl, rfl⟩ := hh
      exact ⟨fun W => lt_0 (k := 12) (a := 0) (b := 0) (by omega) (by omega) (by omega) (by omega) rfl W, fun W hG => fi_t (k := 12) (a := 0) (b := 0) (q := 0) (by omega) (by omega) (by omega) (by omega) hv (qa_12 rfl) (by omega) W hG⟩
/-- a line feed -/
def nl : ByteArray := ⟨#[10]⟩
/-- the gates' lines behind a text -/
def lns (h : ByteArray) (xs : List GateV) : ByteArray := xs.foldl (fun s g => s ++ (gtx g ++ nl)) h
theorem lns_snoc (h : ByteArray) (xs : List GateV) (x : GateV) : lns h (xs ++ [x]) = lns h xs ++ (gtx x ++ nl) := by unfold lns; rw [List.foldl_append]; rfl
theorem lns_head (xs : List GateV) : ∀ h : ByteArray, lns h xs = h ++ lns ⟨#[]⟩ xs := by
  induction xs with
  | nil => intro h; show h = h ++ (⟨#[]⟩ : ByteArray); exact ByteArray.append_empty.symm
  | cons x xs ih =>
    intro h
    show lns (h ++ (gtx x ++ nl)) xs = h ++ lns (⟨#[]⟩ ++ (gtx x ++ nl)) xs
    rw [ih (h ++ (gtx x ++ nl)), ih (⟨#[]⟩ ++ (gtx x ++ nl))]
    simp only [show (⟨#[]⟩ : ByteArray) = ByteArray.empty from rfl, ByteArray.empty_append, ByteArray.append_assoc]
theorem ln_size (g : GateV) : (gtx g ++ nl).size ≤ 9 := by rw [ByteArray.size_append]; have := gtx_size g; show _ + 1 ≤ 9; omega
theorem lns_size (h : ByteArray) (xs : List GateV) : (lns h xs).size ≤ h.size + 9 * xs.length := by
  induction xs generalizing h with
  | nil => exact Nat.le_refl _
  | cons x xs ih =>
    have h1 := ih (h ++ (gtx x ++ nl))
    have h2 := ln_size x
    rw [ByteArray.size_append] at h1
    show (lns (h ++ (gtx x ++ nl)) xs).size ≤ _
    rw [List.length_cons]
    omega
theorem take_snoc {ys : List GateV} {j : Nat} {y : GateV} (h : ys[j]? = some y) : ys.take j ++ [y] = ys.take (j + 1) := by
  have hj := (List.getElem?_eq_some_iff.1 h).1
  have hv := (List.getElem?_eq_some_iff.1 h).2
  rw [List.take_add_one, h]; rfl
/-- a builder behind a call that does not touch it -/
theorem isB_mono {T e : TypeId} {B b : Nat} {bs : List Value} {W W' : World} (h : Lib.IsBuilder T e B b bs W) (hb : Below W.heap.size W W') : Lib.IsBuilder T e B b bs W' := by
  have go : ∀ p, Lib.BuilderAt T e B b p bs W → Lib.BuilderAt T e B b p bs W' := fun p h => by
    have hlt := h.lt
    obtain ⟨hB, v, hv, hown, hne⟩ := h
    refine ⟨hB, v, (hb.block b hlt).trans hv, ?_, hne⟩
    refine hown.kept (row := none) (grwB hb) ?_
    cases v.ownBlock with
    | none => exact Or.inl rfl
    | some k => exact Or.inr (fun e => by cases e)
  rcases h with h | h
  · exact Or.inl (go _ h)
  · exact Or.inr (go _ h)
end Go.Proofs.YtdbnjoeanoiifaaDoor
