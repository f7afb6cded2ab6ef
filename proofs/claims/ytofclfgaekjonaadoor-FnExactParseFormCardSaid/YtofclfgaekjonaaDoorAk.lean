/- Atoi of any text; strings.Cut of any text at a blank. -/
import Derived.Test.YtofclfgaekjonaaDoorShA
import Derived.Test.YtofclfgaekjonaaDoorCt
import Derived.Test.YtofclfgaekjonaaDoorValid
import Derived.Lib.ItoaNum
namespace Go.Proofs.YtofclfgaekjonaaDoor
open Go.RowKit RM
set_option linter.unusedVariables false
set_option linter.unusedSimpArgs false
attribute [local irreducible] World.setCell

/-- the library's two errors lie where the program keeps them -/
def Ers (w : World) : Prop := (∃ te pe, w.cell? ⟨2, 0, none⟩ = some (.iface te pe)) ∧ ∃ te pe, w.cell? ⟨3, 0, none⟩ = some (.iface te pe)
theorem kcl2 {a b : World} {k o : Nat} {v : Value} (hb : Below a.heap.size a b) (h : a.cell? ⟨k, o, none⟩ = some v) : b.cell? ⟨k, o, none⟩ = some v :=
  (hb.cell (p := ⟨k, o, none⟩) (World.block_lt_of_cell? a _ h)).trans h
theorem Ers.below {w W : World} (h : Ers w) (hb : Below w.heap.size w W) : Ers W := by
  obtain ⟨⟨t1, p1, h1⟩, t2, p2, h2⟩ := h
  exact ⟨⟨t1, p1, kcl2 hb h1⟩, t2, p2, kcl2 hb h2⟩
theorem at_ok {x : ByteArray} {v : Int} (hs : x.size ≤ 1048576) (h : Lib.atoiAll x.data.toList = .ok v) (w : World) :
    Calls Tryd.prog 35 #[.string x] w fun e w' => e = .returned (.tuple #[.int .i64 v, .nilIface]) ∧ Below w.heap.size w w' :=
  (Tryd.strconv_Atoi_ok x (by omega) v h w).mono fun e w' ⟨he, hw⟩ => ⟨he, by
    rcases hw with rfl | ⟨t, rfl⟩
    · exact Below.refl _ _
    · exact Lib.bytesWorld_below _ _ _⟩
theorem idx_in (l : List UInt8) : Lib.indexByte l 32 = -1 ∨ ∃ i : Nat, Lib.indexByte l 32 = (i : Int) ∧ i < l.length := by
  induction l with
  | nil => exact Or.inl rfl
  | cons b l ih =>
    unfold Lib.indexByte
    split
    · exact Or.inr ⟨0, rfl, by simp⟩
    · rcases ih with h | ⟨i, h, hi⟩
      · rw [h]; exact Or.inl rfl
      · rw [h, if_neg (by rw [beq_iff_eq]; omega)]
        exact Or.inr ⟨i + 1, by omega, by rw [List.length_cons]; omega⟩
theorem idx32 {l : List UInt8} (h : ∀ b ∈ l, (b.toNat : Int) ≠ 32) (r : List UInt8) : Lib.indexByte (l ++ 32 :: r) 32 = (l.length : Int) := by
  induction l with
  | nil => rfl
  | cons b l ih =>
    have hb : ¬ (b == 32) = true := fun e => h b (by simp) (by rw [beq_iff_eq.1 e]; rfl)
    have ih2 := ih (fun x hx => h x (by simp [hx]))
    show Lib.indexByte (b :: (l ++ 32 :: r)) 32 = _
    unfold Lib.indexByte
    rw [if_neg hb, ih2, if_neg (by rw [beq_iff_eq]; omega), List.length_cons]
    omega
theorem cut_any {s : ByteArray} (hs : s.size ≤ 1048576) : ∃ (u v : ByteArray) (k : Bool), u.size ≤ s.size ∧ v.size ≤ s.size ∧ ∀ W, Calls Tryd.prog 34 #[.string s, .string ⟨#[32]⟩] W fun e w' => e = .returned (.tuple #[.string u, .string v, .bool k]) ∧ Below W.heap.size W w' := by
  rcases idx_in s.data.toList with h | ⟨i, h, hi⟩
  · exact ⟨s, ⟨#[]⟩, false, Nat.le_refl _, Nat.zero_le _, fun W => cut_of (fun w => cut_miss0 h w) W⟩
  · have hi2 : i < s.size := by rw [Array.length_toList] at hi; exact hi
    exact ⟨s.extract 0 i, s.extract (i + 1) s.size, true, by rw [ByteArray.size_extract]; omega, by rw [ByteArray.size_extract]; omega, fun W => cut_of (fun w => cut_hit0 h hi2 hs w) W⟩
theorem at_any {x : ByteArray} (hs : x.size ≤ 1048576) : ∃ v : Int, (∀ n, Lib.atoiAll x.data.toList = .ok n → v = n) ∧ ∀ w : World, Ers w →
    Calls Tryd.prog 35 #[.string x] w fun e w' => ∃ ev, e = .returned (.tuple #[.int .i64 v, ev]) ∧ Below w.heap.size w w' := by
  match ha : Lib.atoiAll x.data.toList with
  | Go.Lib.NumEnd.ok v => exact ⟨v, fun n h => (by cases h; rfl), fun w _ => (at_ok hs ha w).mono fun e w' ⟨he, hb⟩ => ⟨_, he, hb⟩⟩
  | Go.Lib.NumEnd.syntax => exact ⟨0, fun n h => (by cases h), fun w ⟨⟨t1, p1, h1⟩, _⟩ => (Tryd.strconv_Atoi_syntax x (by omega) ha _ w h1 (Or.inr ⟨_, _, rfl⟩)).mono fun e w' ⟨N, he, _, _, hb⟩ => ⟨_, he, hb⟩⟩
  | Go.Lib.NumEnd.range => exact ⟨Lib.atoiSat x.data.toList, fun n h => (by cases h), fun w ⟨_, t2, p2, h2⟩ => (Tryd.strconv_Atoi_range x (by omega) ha _ w h2 (Or.inr ⟨_, _, rfl⟩)).mono fun e w' ⟨N, he, _, _, hb⟩ => ⟨_, he, hb⟩⟩
end Go.Proofs.YtofclfgaekjonaaDoor
