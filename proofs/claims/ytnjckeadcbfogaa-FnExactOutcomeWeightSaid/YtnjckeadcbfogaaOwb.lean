/- OutcomeWeight at all circuits. -/
import Derived.Test.YtnjckeadcbfogaaOwa
namespace Go.Proofs.Ytnjckeadcbfogaa
open Go.RowKit RM
set_option linter.unusedVariables false
set_option linter.unusedSimpArgs false
attribute [local irreducible] World.setCell

open GM
namespace C4
structure DyadicV where
  f0 : Int
  f1 : Int
  f2 : Int
  f3 : Int
  f4 : Int
abbrev DyadicV.v (x : DyadicV) : Value := .agg #[.int .i64 x.f0, .int .i64 x.f1, .int .i64 x.f2, .int .i64 x.f3, .int .i64 x.f4]
theorem eqDyadic (x : DyadicV) (w : World) : Calls Try.prog 44 #[x.v, x.v] w fun ee w' => ee = .returned (.bool true) ∧ Below w.heap.size w w' := ed _ _ _ _ _ _
end C4
/-- what OutcomeWeight answers, in both -/
theorem owC {a0 s en : Int} {m : Nat} {gs : List C4.GateV} (hm : gs.length = m) (hmx : m ≤ maxLen) : ∃ (y : C4.DyadicV) (r : Bool), (∀ (A : Option Addr) (c : Nat) (w : World), C4.Rd C4.gateE w A gs → (∀ a, A = some a → a.block < w.heap.size) → Calls Try.prog 42 #[C4.circuitV a0 A m c, .int .i64 s, .int .i64 en] w fun ee w' => ee = .returned (.tuple #[y.v, .bool r]) ∧ Below w.heap.size w w') ∧ (∀ (A : Option Addr) (c : Nat) (w : World), C4.Rd C4.gateE w A gs → Calls Try.prog 43 #[C4.circuitV a0 A m c, .int .i64 s, .int .i64 en] w fun ee w' => ee = .returned (.tuple #[y.v, .bool r]) ∧ Below w.heap.size w w') := by
  obtain ⟨r, q, k, zs, ok, O⟩ := stC (a0 := a0) (s := s) hm hmx
  cases ok
  · exact ⟨⟨0, 0, 0, 0, 0⟩, false, fun A c w hA lA => ow_s_f (fun W hW => O.sp A c w W hA lA hW), fun A c w hA => ow_i_f (fun W hW => O.im A c w W hA hW)⟩
  obtain ⟨n, rfl, q1, q5, hK⟩ := O.good rfl
  by_cases hl : en < 0
  · exact ⟨⟨0, 0, 0, 0, 0⟩, false, fun A c w hA lA => ow_s_l (fun W hW => O.sp A c w W hA lA hW) q1 q5 hK hl, fun A c w hA => ow_i_l (fun W hW => O.im A c w W hA hW) q1 q5 hK hl⟩
  by_cases hh : (k : Int) ≤ en
  · exact ⟨⟨0, 0, 0, 0, 0⟩, false, fun A c w hA lA => ow_s_h (fun W hW => O.sp A c w W hA lA hW) q1 q5 hK (by omega) hh, fun A c w hA => ow_i_h (fun W hW => O.im A c w W hA hW) q1 q5 hK (by omega) hh⟩
  obtain ⟨e, rfl⟩ := Int.eq_ofNat_of_zero_le (show 0 ≤ en by omega)
  have he : e < k := by omega
  obtain ⟨x, hx⟩ : ∃ x, zs[e]? = some x := ⟨_, List.getElem?_eq_getElem (by rw [O.len]; exact he)⟩
  rcases ns_any x.a x.b x.c x.d x.e with ⟨L, M, N, P, E, -, hl2, hli⟩ | ⟨hl2, hli⟩
  · exact ⟨⟨L, M, N, P, E⟩, true, fun A c w hA lA => ow_s_t (fun W hW => O.sp A c w W hA lA hW) q1 q5 hK he hx (fun W => hl2 W), fun A c w hA => ow_i_t (fun W hW => O.im A c w W hA hW) q1 q5 hK he hx (fun W => hli W)⟩
  · exact ⟨⟨0, 0, 0, 0, 0⟩, false, fun A c w hA lA => ow_s_t (fun W hW => O.sp A c w W hA lA hW) q1 q5 hK he hx (fun W => hl2 W), fun A c w hA => ow_i_t (fun W hW => O.im A c w W hA hW) q1 q5 hK he hx (fun W => hli W)⟩
end Go.Proofs.Ytnjckeadcbfogaa
