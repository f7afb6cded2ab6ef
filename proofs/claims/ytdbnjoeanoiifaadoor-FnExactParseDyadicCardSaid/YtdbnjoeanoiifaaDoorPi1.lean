/- strings.SplitN at a blank and five. -/
import Derived.Test.YtdbnjoeanoiifaaDoorPm2
import Derived.Test.YtdbnjoeanoiifaaDoorFm
namespace Go.Proofs.YtdbnjoeanoiifaaDoor
open Go.RowKit
set_option linter.unusedVariables false
set_option linter.unusedSimpArgs false
attribute [local irreducible] World.setCell

theorem gsp (s : ByteArray) (hs : s.size ≤ 1048576) (N : Nat) (hN : (N : Int) = min 5 ((s.size : Int) + 1)) (w : World) :
    Calls Tryd.prog 60 #[.string s, .string spc, .int .i64 0, .int .i64 5] w fun e w' => e = .returned (.slice (some ⟨w.heap.size, 0, none⟩) (Lib.splitB spc 0 (N - 1) s).length N) ∧ w' = w.alloc (.cells (Lib.cellsOf (Lib.splitB spc 0 (N - 1) s) N) 9) :=
  Any.strings_genSplit_core Tryd.lays221 (by kernel_rfl) s spc 0 5 N w (by omega) (by decide) (Nat.zero_le _)
    (fun x c hx => (Tryd.strings_Index_one x 32 _).mono fun e w' ⟨he, hw⟩ => ⟨by rw [he, ← idxB], hw⟩)
    ((Tryd.strings_Count_one s 32 w).mono fun e w' ⟨he, hw⟩ => ⟨by rw [he]; show Ending.returned (Value.int .i64 _) = Ending.returned (Value.int .i64 ((Lib.count s.data.toList [32] : Nat) : Int)); rw [Lib.count_one]; rfl, hw⟩)
    (by decide) (by decide) (by rw [if_neg (by decide)]; exact hN)
set_option maxRecDepth 100000 in
set_option maxHeartbeats 2000000 in
theorem spn {s : ByteArray} (hs : s.size ≤ 1048576) (N : Nat) (hN : (N : Int) = min 5 ((s.size : Int) + 1)) {L : List ByteArray} (hL : Lib.splitB spc 0 (N - 1) s = L) (w : World) :
    Calls Tryd.prog 30 #[.string s, .string ⟨#[32]⟩, .int .i64 5] w fun e w' => e = .returned (.slice (some ⟨w.heap.size, 0, none⟩) L.length N) ∧ w' = w.alloc (.cells (Lib.cellsOf L N) 9) := by
  have k := fun w => gsp s hs N hN w
  rw [hL] at k
  have K := lay k
  clear k hL hN
  go_enter Tryd.func30, Tryd.ntmps30
  go_wp2_with (go_at_call 60; ((with_reducible refine (K.out _).mono ?_); rintro ee w1 ⟨rfl, rfl⟩))
  go_ret
  exact ⟨rfl, rfl⟩
theorem cells_at {L : List ByteArray} {N : Nat} {j : Nat} {x : ByteArray} (h : L[j]? = some x) : (Lib.cellsOf L N)[j]? = some (.string x) := by
  unfold Lib.cellsOf
  have hj := (List.getElem?_eq_some_iff.1 h).1
  rw [List.getElem?_toArray, List.getElem?_append_left (by rw [List.length_map]; exact hj), List.getElem?_map, h]
  rfl
end Go.Proofs.YtdbnjoeanoiifaaDoor
