/- slices.Concat of two slices of Pauli operators. -/
import Derived.Test.YtjedpeoafpljhaaQAp
import Derived.Test.YtjedpeoafpljhaaPts
import Derived.Lib.AppendZerosOnto
import Derived.Lib.Walk
namespace Go.Proofs.Ytjedpeoafpljhaa.C4
open Go.RowKit
set_option linter.unusedVariables false
set_option linter.unusedSimpArgs false
attribute [local irreducible] World.setCell

theorem Own.cap {α : Type} {E : Enc α} {W : World} {base : Nat} {t : TypeId} {v : Value} {xs : List α} (h : Own E W base t v xs) : ∀ A l c, v = .slice A l c → xs.length ≤ c ∧ c ≤ maxLen := by
  intro A l c hv
  subst hv
  obtain ⟨h0, h1⟩ := h
  rcases h1 with ⟨e, h2⟩ | ⟨g, cap, cur, e, -, -, h2, h3, -⟩
  · cases e; exact ⟨by omega, by unfold maxLen; omega⟩
  · cases e; exact ⟨h2, h3⟩

/-- an empty slice with room -/
def RoomP (w : World) (ee : Ending) (w' : World) : Prop := ∃ (A : Option Addr) (cp : Nat), ee = .returned (.slice A 0 cp) ∧ Own pauliE w' w.heap.size 43 (.slice A 0 cp) [] ∧ Below w.heap.size w w'
set_option maxRecDepth 100000 in
set_option maxHeartbeats 4000000 in
theorem pgrow0 {w : World} :
    Calls Try.prog 187 #[.slice none 0 0, .int .i64 0] w fun ee w' => RoomP w ee w' := by
  go_enter Try.func187, Try.ntmps187
  go_wp2_with (fail)
  go_ret
  exact ⟨none, 0, rfl, Own.nil _ _ _, by (repeat' (first | (with_reducible exact Below.refl _ _) | (with_reducible assumption) | (with_reducible refine Below.alloc ?_ ?_ _) | (with_reducible refine Below.drew ?_) | (with_reducible refine bdN ?_ _) | (with_reducible refine Below.setCell ?_ ?_ _) | (with_reducible refine chn ?_ (by assumption) ?_) | omega | (simp; done) | (simp; omega)))⟩

set_option maxRecDepth 100000 in
set_option maxHeartbeats 4000000 in
theorem pgrow1 {n : Nat} {w : World} (h0 : 0 < n) (hn : n ≤ 800) :
    Calls Try.prog 187 #[.slice none 0 0, .int .i64 (n : Int)] w fun ee w' => RoomP w ee w' := by
  obtain ⟨i0, hi0, iz0, iz1, iz2⟩ := info_parts infoPauli
  have h1 : ¬ ((n : Int) < 0) := by omega
  have h4 : (n : Int) > 0 := by omega
  have hold : (Builtin.firstCells i0.size 0 (.slice none 0 0)).run Try.prog w.drew = .ok (#[] : Array Value) w.drew := run_firstCells_none w.drew i0.size 0 0 0
  have hrz : ∀ ty, (Builtin.append_ #[51, 3] ty #[.slice none 0 0, .int .i64 (n : Int)]).run Try.prog w =
      .ok (.slice (some ⟨w.heap.size, 0, none⟩) n (grownCap w n 0 43)) (w.drew.alloc (.cells (#[] ++ Builtin.zeroCells #[.int .i64 0, .int .i64 0, .int .i64 0] n ++ Builtin.zeroCells #[.int .i64 0, .int .i64 0, .int .i64 0] (grownCap w n 0 43 - n)) 43)) := fun ty => by
    have h := Lib.run_append_grow_zeros w 51 3 ty 43 i0 _ .i64 .i64 Try.underlying51 Try.underlying3 hi0 iz0 none 0 0 [] hold n h0 (by rw [iz1]; decide) (by omega) (by omega)
      (by rw [iz2]; omega) (growslice_fits (by omega) (by rw [iz2]; omega))
    rw [Nat.zero_add] at h
    exact h
  have hGn : n ≤ grownCap w n 0 43 := grownCap_ge w _ _ _
  have hG63 : grownCap w n 0 43 ≤ maxLen := grownCap_le_maxLen w n 0 43 (by unfold maxLen; omega)
  obtain ⟨C, hC⟩ : ∃ C, C = grownCap w n 0 43 := ⟨_, rfl⟩
  rw [← hC] at hrz hGn hG63
  have hG64 : C ≤ 9223372036854775807 := by unfold maxLen at hG63; omega
  have hsz : (#[] ++ Builtin.zeroCells #[.int .i64 0, .int .i64 0, .int .i64 0] n ++ Builtin.zeroCells #[.int .i64 0, .int .i64 0, .int .i64 0] (C - n) : Array Value).size = C * 3 := by
    rw [Array.size_append, Array.size_append, size_zeroCells, size_zeroCells]
    show 0 + n * 3 + (C - n) * 3 = _
    rw [Nat.zero_add, ← Nat.add_mul]
    congr 1
    omega
  obtain ⟨cur, hcur⟩ : ∃ cur, cur = (#[] ++ Builtin.zeroCells #[.int .i64 0, .int .i64 0, .int .i64 0] n ++ Builtin.zeroCells #[.int .i64 0, .int .i64 0, .int .i64 0] (C - n) : Array Value) := ⟨_, rfl⟩
  rw [← hcur] at hsz hrz
  have HSZ := lay hsz
  clear hsz hcur hold hC
  go_enter Try.func187, Try.ntmps187
  go_wp2_with (at_builtin; refine Lib.wpList_append_run _ rfl _ _ _ _ rfl _ _ rfl rfl _ _ (hrz _) ?_)
  all_goals (go_ret; exact ⟨_, C, rfl, Own.made rfl (by first | exact Nat.le_refl _ | (simp; done)) hG63 HSZ.out, by (repeat' (first | (with_reducible exact Below.refl _ _) | (with_reducible assumption) | (with_reducible refine Below.alloc ?_ ?_ _) | (with_reducible refine Below.drew ?_) | (with_reducible refine bdN ?_ _) | (with_reducible refine Below.setCell ?_ ?_ _) | (with_reducible refine chn ?_ (by assumption) ?_) | omega | (simp; done) | (simp; omega)))⟩)


/-- the two lists one behind the other, in memory of the call's own -/
def CatP (L : List PauliV) (w : World) (ee : Ending) (w' : World) : Prop := ∃ (A : Option Addr) (cp : Nat), ee = .returned (.slice A L.length cp) ∧ L.length ≤ cp ∧ cp ≤ maxLen ∧ Ow pauliE w' w.heap.size 43 A L ∧ Below w.heap.size w w'
theorem CatP.i {L : List PauliV} {w w' : World} {ee : Ending} {A : Option Addr} {k cp : Nat} (hk : L.length = k) (hcp : L.length ≤ cp ∧ cp ≤ maxLen) (he : ee = .returned (.slice A k cp)) (hO : Ow pauliE w' w.heap.size 43 A L) (hb : Below w.heap.size w w') : CatP L w ee w' := ⟨A, cp, by rw [hk]; exact he, hcp.1, hcp.2, hO, hb⟩
set_option maxRecDepth 100000 in
set_option maxHeartbeats 4000000 in
theorem pcat_z {b g h n m c d : Nat} {xs ys : List PauliV} {w : World} (hc0 : w.cell? ⟨b, 0, none⟩ = some (.slice (some ⟨g, 0, none⟩) n c)) (hc1 : w.cell? ⟨b, 1, none⟩ = some (.slice (some ⟨h, 0, none⟩) m d)) (hA : Rd pauliE w (some ⟨g, 0, none⟩) xs) (hB : Rd pauliE w (some ⟨h, 0, none⟩) ys) (hn : xs.length = n) (hm : ys.length = m) (h0 : n + m = 0) :
    Calls Try.prog 147 #[.slice (some ⟨b, 0, none⟩) 2 2] w fun ee w' => CatP (xs ++ ys) w ee w' := by
  obtain ⟨i0, hi0, iz0, iz1, iz2⟩ := info_parts infoPauli
  obtain rfl : n = 0 := by omega
  obtain rfl : m = 0 := by omega
  have hbw : b < w.heap.size := World.block_lt_of_cell? _ _ hc0
  have hll : (xs ++ ys).length = 0 + 0 := by rw [List.length_append, hn, hm]
  have HLL := lay hll
  have HA := lay hA
  have HB := lay hB
  have HN := lay hn
  have HM := lay hm
  have hmax2 : 0 + 0 ≤ maxLen := by unfold maxLen; omega
  have hby2 : (0 + 0) * 24 ≤ 140737488355328 := by omega
  have hmax3 : 0 + 0 ≤ maxLen := by unfold maxLen; omega
  have hby3 : (0 + 0) * 24 ≤ 140737488355328 := by omega
  clear hA hB hn hm hll
  go_enter Try.func147, Try.ntmps147
  go_wp2_with (fail)
  refine wp_loop_rounds 3 ?_
  rw [rounds_succ]
  go_wp2_with (fail)
  rw [rounds_succ]
  go_wp2_with (fail)
  rw [rounds_succ]
  go_wp2_with (fail)
  refine pgrow0.mono ?_
  rintro ee w1 ⟨A1, cp1, rfl, hO1, hW1⟩
  have hz1 := hW1.size
  have HO1 := lay hO1
  have hv1 : ∀ k, (Value.slice A1 0 cp1).ownBlock = some k → w.heap.size ≤ k := fun k e => (hO1.lt k e).1
  have ne1 : some b ≠ (Value.slice A1 0 cp1).ownBlock := fun e => by have := hv1 _ e.symm; omega
  have e0 : w1.cell? ⟨b, 0, none⟩ = some (.slice (some ⟨g, 0, none⟩) 0 c) := (hW1.cell (p := ⟨b, 0, none⟩) hbw).trans hc0
  have e1 : w1.cell? ⟨b, 1, none⟩ = some (.slice (some ⟨h, 0, none⟩) 0 d) := (hW1.cell (p := ⟨b, 1, none⟩) hbw).trans hc1
  have HV1 := lay hv1
  have NE1 := lay ne1
  clear hO1 hc0 hc1 hv1 ne1
  go_wp2_with (fail)
  refine wp_loop_rounds 3 ?_
  rw [rounds_succ]
  go_wp2_with (at_builtin; refine wpList_appN (E := pauliE) rfl _ _ _ rfl w.heap.size 43 i0 _ 24 Try.underlying51 hi0 iz0 iz1 iz2 rfl _ _ 0 rfl (by rfl) HO1.out g 0 0 c xs HN.out (by rfl) (HA.out.mono hW1) hmax2 hby2 (by omega) ?_; intro A2 cp2 w2 hO2 hG2 hat2; rw [List.nil_append] at hO2; simp only [Nat.zero_add] at hO2; have HO2 := lay hO2; have hz2 := hG2.size; have hW2 : Below w.heap.size w w2 := Below.grown hW1 hG2 (by omega) HV1.out; have f1 := hG2.cell e1 NE1.out; have hv2 : ∀ k, (Value.slice A2 0 cp2).ownBlock = some k → w.heap.size ≤ k := (fun k e => (HO2.out.lt k e).1); have HV2 := lay hv2; clear hv2 hO2 hG2 hat2 e0 e1)
  rw [rounds_succ]
  go_wp2_with (at_builtin; refine wpList_appN (E := pauliE) rfl _ _ _ rfl w.heap.size 43 i0 _ 24 Try.underlying51 hi0 iz0 iz1 iz2 rfl _ _ 0 HN.out (by rfl) HO2.out h 0 0 d ys HM.out (by rfl) (HB.out.mono hW2) hmax3 hby3 (by omega) ?_; intro A3 cp3 w3 hO3 hG3 hat3; have HO3 := lay hO3; have hz3 := hG3.size; have hW3 : Below w.heap.size w w3 := Below.grown hW2 hG3 (by omega) HV2.out; clear hO3 hG3 hat3 f1)
  rw [rounds_succ]
  go_wp2_with (fail)
  go_ret
  have hcap := HO3.out.cap
  obtain ⟨A4, cp4, h4, hOw⟩ := HO3.out.ow
  rw [HLL.out] at h4
  cases h4
  exact CatP.i HLL.out (hcap _ _ _ rfl) rfl hOw hW3

set_option maxRecDepth 100000 in
set_option maxHeartbeats 4000000 in
theorem pcat_p {b g h n m c d : Nat} {xs ys : List PauliV} {w : World} (hc0 : w.cell? ⟨b, 0, none⟩ = some (.slice (some ⟨g, 0, none⟩) n c)) (hc1 : w.cell? ⟨b, 1, none⟩ = some (.slice (some ⟨h, 0, none⟩) m d)) (hA : Rd pauliE w (some ⟨g, 0, none⟩) xs) (hB : Rd pauliE w (some ⟨h, 0, none⟩) ys) (hn : xs.length = n) (hm : ys.length = m) (h0 : 0 < n + m) (hl : n + m ≤ 400) :
    Calls Try.prog 147 #[.slice (some ⟨b, 0, none⟩) 2 2] w fun ee w' => CatP (xs ++ ys) w ee w' := by
  obtain ⟨i0, hi0, iz0, iz1, iz2⟩ := info_parts infoPauli
  have hbw : b < w.heap.size := World.block_lt_of_cell? _ _ hc0
  have hll : (xs ++ ys).length = n + m := by rw [List.length_append, hn, hm]
  have HLL := lay hll
  have HA := lay hA
  have HB := lay hB
  have HN := lay hn
  have HM := lay hm
  have hmax2 : 0 + n ≤ maxLen := by unfold maxLen; omega
  have hby2 : (0 + n) * 24 ≤ 140737488355328 := by omega
  have hmax3 : n + m ≤ maxLen := by unfold maxLen; omega
  have hby3 : (n + m) * 24 ≤ 140737488355328 := by omega
  clear hA hB hn hm hll
  go_enter Try.func147, Try.ntmps147
  go_wp2_with (fail)
  refine wp_loop_rounds 3 ?_
  rw [rounds_succ]
  go_wp2_with (fail)
  rw [rounds_succ]
  go_wp2_with (fail)
  rw [rounds_succ]
  go_wp2_with (fail)
  rw [show ((n : Int) + (m : Int)) = ((n + m : Nat) : Int) from by simp]
  refine (pgrow1 (n := n + m) h0 (by omega)).mono ?_
  rintro ee w1 ⟨A1, cp1, rfl, hO1, hW1⟩
  have hz1 := hW1.size
  have HO1 := lay hO1
  have hv1 : ∀ k, (Value.slice A1 0 cp1).ownBlock = some k → w.heap.size ≤ k := fun k e => (hO1.lt k e).1
  have ne1 : some b ≠ (Value.slice A1 0 cp1).ownBlock := fun e => by have := hv1 _ e.symm; omega
  have e0 : w1.cell? ⟨b, 0, none⟩ = some (.slice (some ⟨g, 0, none⟩) n c) := (hW1.cell (p := ⟨b, 0, none⟩) hbw).trans hc0
  have e1 : w1.cell? ⟨b, 1, none⟩ = some (.slice (some ⟨h, 0, none⟩) m d) := (hW1.cell (p := ⟨b, 1, none⟩) hbw).trans hc1
  have HV1 := lay hv1
  have NE1 := lay ne1
  clear hO1 hc0 hc1 hv1 ne1
  go_wp2_with (fail)
  refine wp_loop_rounds 3 ?_
  rw [rounds_succ]
  go_wp2_with (at_builtin; refine wpList_appN (E := pauliE) rfl _ _ _ rfl w.heap.size 43 i0 _ 24 Try.underlying51 hi0 iz0 iz1 iz2 rfl _ _ 0 rfl (by rfl) HO1.out g 0 n c xs HN.out (by rfl) (HA.out.mono hW1) hmax2 hby2 (by omega) ?_; intro A2 cp2 w2 hO2 hG2 hat2; rw [List.nil_append] at hO2; simp only [Nat.zero_add] at hO2; have HO2 := lay hO2; have hz2 := hG2.size; have hW2 : Below w.heap.size w w2 := Below.grown hW1 hG2 (by omega) HV1.out; have f1 := hG2.cell e1 NE1.out; have hv2 : ∀ k, (Value.slice A2 n cp2).ownBlock = some k → w.heap.size ≤ k := (fun k e => (HO2.out.lt k e).1); have HV2 := lay hv2; clear hv2 hO2 hG2 hat2 e0 e1)
  rw [rounds_succ]
  go_wp2_with (at_builtin; refine wpList_appN (E := pauliE) rfl _ _ _ rfl w.heap.size 43 i0 _ 24 Try.underlying51 hi0 iz0 iz1 iz2 rfl _ _ n HN.out (by rfl) HO2.out h 0 m d ys HM.out (by rfl) (HB.out.mono hW2) hmax3 hby3 (by omega) ?_; intro A3 cp3 w3 hO3 hG3 hat3; have HO3 := lay hO3; have hz3 := hG3.size; have hW3 : Below w.heap.size w w3 := Below.grown hW2 hG3 (by omega) HV2.out; clear hO3 hG3 hat3 f1)
  rw [rounds_succ]
  go_wp2_with (fail)
  go_ret
  have hcap := HO3.out.cap
  obtain ⟨A4, cp4, h4, hOw⟩ := HO3.out.ow
  rw [HLL.out] at h4
  cases h4
  exact CatP.i HLL.out (hcap _ _ _ rfl) rfl hOw hW3

end Go.Proofs.Ytjedpeoafpljhaa.C4
