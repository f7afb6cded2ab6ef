/- slices.Equal of Pauli operators. -/
import Derived.Test.YtjedpeoafpljhaaPc
import Derived.Test.YtjedpeoafpljhaaPt
import Derived.BigQuiet
import Derived.Deep.QuietTactic
namespace Go.Proofs.Ytjedpeoafpljhaa.C4
open Go.RowKit
set_option linter.unusedVariables false
set_option linter.unusedSimpArgs false
attribute [local irreducible] World.setCell

theorem takEq {α : Type} {xs ys : List α} {j : Nat} {x : α} (hx : xs[j]? = some x) (hy : ys[j]? = some x) (h : xs.take j = ys.take j) : xs.take (j + 1) = ys.take (j + 1) := by
  rw [List.take_add_one, List.take_add_one, hx, hy, h]
theorem takEnd {α : Type} {xs ys : List α} {j : Nat} (h1 : xs.length = j) (h2 : ys.length = j) (h : xs.take j = ys.take j) : xs = ys := by
  rwa [List.take_of_length_le (by omega), List.take_of_length_le (by omega)] at h
theorem takNe {α : Type} {xs ys : List α} {j : Nat} {x y : α} (hx : xs[j]? = some x) (hy : ys[j]? = some y) (hne : x ≠ y) : xs ≠ ys := fun h => by
  rw [h, hy] at hx
  exact hne (Option.some.inj hx).symm
theorem boolT {P : Prop} {t : Bool} (h : t = true ↔ P) (p : P) : t = true := h.2 p
theorem boolF {P : Prop} {t : Bool} (h : t = true ↔ P) (p : ¬ P) : t = false := by
  cases ht : t
  · rfl
  · exact absurd (h.1 ht) p
set_option maxRecDepth 100000 in
set_option maxHeartbeats 4000000 in
theorem psleq {A B : Option Addr} {n1 c d : Nat} {xs ys : List PauliV} {t : Bool} {w : World} (h : t = true ↔ xs = ys) (hA : Rd pauliE w A xs) (hB : Rd pauliE w B ys) (hn : xs.length = n1) (hm : ys.length = n1) (hb : n1 ≤ 1048576) :
    Calls Try.prog 149 #[.slice A n1 c, .slice B n1 d] w fun ee w' => ee = .returned (.bool t) ∧ Below w.heap.size w w' := by
  have H := lay h
  have HA := lay hA
  have HB := lay hB
  have HN := lay hn
  have HM := lay hm
  clear h hA hB hn hm
  go_enter Try.func149, Try.ntmps149
  go_wp2_with (fail)
  go_loopg [13] n1 (fun k s1 wr => ∃ j : Nat, j + k = n1 ∧ s1 = .int .i64 (j : Int) ∧ Hid (xs.take j = ys.take j) ∧ Below w.heap.size w wr)
  case atStart => exact ⟨0, by omega, rfl, rfl, by (repeat' (first | (with_reducible exact Below.refl _ _) | (with_reducible assumption) | (with_reducible refine Below.alloc ?_ ?_ _) | (with_reducible refine Below.drew ?_) | (with_reducible refine bdN ?_ _) | (with_reducible refine Below.setCell ?_ ?_ _) | (with_reducible refine chn ?_ (by assumption) ?_) | omega | (simp; done) | (simp; omega)))⟩
  case round =>
    obtain ⟨j, hj, rfl, HJ, hB⟩ := hrel
    have hBz := hB.size
    cases gk with
    | zero =>
      obtain rfl : j = n1 := by omega
      have HT : Hid (true = t) := (boolT H.out (takEnd HN.out HM.out HJ.out)).symm
      go_wp2_with (fail)
      go_ret
      exact ⟨ret_bool HT.out, hB⟩
    | succ m =>
      have hlt : j < n1 := by omega
      obtain ⟨x, hx⟩ : ∃ x, xs[j]? = some x := ⟨_, List.getElem?_eq_getElem (by rw [HN.out]; exact hlt)⟩
      obtain ⟨y, hy⟩ : ∃ y, ys[j]? = some y := ⟨_, List.getElem?_eq_getElem (by rw [HM.out]; exact hlt)⟩
      obtain ⟨g, o, rfl, hgw, hC⟩ := HA.out.atPauli hx
      obtain ⟨g', o', rfl, hgw', hD⟩ := HB.out.atPauli hy
      have hC' : wr.cell? ⟨g, o + j * 3, none⟩ = some (.int .i64 x.f0) ∧ wr.cell? ⟨g, o + j * 3 + 1, none⟩ = some (.int .i64 x.f1) ∧ wr.cell? ⟨g, o + j * 3 + 2, none⟩ = some (.int .i64 x.f2) := ⟨(World.cell?_of_block (hB.block g hgw)).trans hC.1, (World.cell?_of_block (hB.block g hgw)).trans hC.2.1, (World.cell?_of_block (hB.block g hgw)).trans hC.2.2⟩
      have hD' : wr.cell? ⟨g', o' + j * 3, none⟩ = some (.int .i64 y.f0) ∧ wr.cell? ⟨g', o' + j * 3 + 1, none⟩ = some (.int .i64 y.f1) ∧ wr.cell? ⟨g', o' + j * 3 + 2, none⟩ = some (.int .i64 y.f2) := ⟨(World.cell?_of_block (hB.block g' hgw')).trans hD.1, (World.cell?_of_block (hB.block g' hgw')).trans hD.2.1, (World.cell?_of_block (hB.block g' hgw')).trans hD.2.2⟩
      obtain ⟨q0, q1, q2⟩ := hC'
      obtain ⟨p0, p1, p2⟩ := hD'
      have HX := lay hx
      have HY := lay hy
      clear hx hy hC hD
      by_cases hxy : x = y
      · subst hxy
        have hop := neqPauli_s x
        go_wp2_with (fail)
        go_quiet (fail)
        go_wp2_with (fail)
        go_roundg m
        case measure => omega
        case rel => exact ⟨j + 1, by omega, by go_num, takEq HX.out HY.out HJ.out, by (repeat' (first | (with_reducible exact Below.refl _ _) | (with_reducible assumption) | (with_reducible refine Below.alloc ?_ ?_ _) | (with_reducible refine Below.drew ?_) | (with_reducible refine bdN ?_ _) | (with_reducible refine Below.setCell ?_ ?_ _) | (with_reducible refine chn ?_ (by assumption) ?_) | omega | (simp; done) | (simp; omega)))⟩
      · have HT : Hid (false = t) := (boolF H.out (takNe HX.out HY.out hxy)).symm
        have hop := neqPauli_d hxy
        clear hxy
        go_wp2_with (fail)
        go_quiet (fail)
        go_wp2_with (fail)
        go_ret
        refine ⟨ret_bool HT.out, ?_⟩
        (repeat' (first | (with_reducible exact Below.refl _ _) | (with_reducible assumption) | (with_reducible refine Below.alloc ?_ ?_ _) | (with_reducible refine Below.drew ?_) | (with_reducible refine bdN ?_ _) | (with_reducible refine Below.setCell ?_ ?_ _) | (with_reducible refine chn ?_ (by assumption) ?_) | omega | (simp; done) | (simp; omega)))

end Go.Proofs.Ytjedpeoafpljhaa.C4
