/- Contracts of the draws of numbers. -/
import Derived.Test.YtefmglofnoinmaaCur
import Derived.Deep.LoopGhost
import Derived.Test.YtefmglofnoinmaaHeldB
import Derived.Deep.RegionHeld3
import Derived.Deep.MidRow
import Derived.Deep.DeepCutAuto
import Derived.Deep.RegionWith
namespace Go.Proofs.Ytefmglofnoinmaa
open Go.RowKit RM
set_option linter.unusedVariables false
set_option linter.unusedSimpArgs false
attribute [local irreducible] World.setCell

set_option maxRecDepth 100000 in
set_option maxHeartbeats 4000000 in
theorem pick_any (n : Int) (h1 : 2 ≤ n) (h2 : n ≤ 100000) {g len cap M : Nat} {A : Option Addr} {w : World} (h : Cu w g A len cap M) (hl : (len : Int) ≤ 9223372036854775807) (hM : M ≤ 10000000000) :
    Calls Try.prog 77 #[.pointer (some ⟨g, 0, none⟩), .int .i64 n] w fun e w' => ∃ v : Int, e = .returned (.int .i64 v) ∧ 0 ≤ v ∧ v < n ∧ Cu w' g A len cap (M + 2) ∧ Kp g w w' := by
  have HC := hid h
  clear h
  have HL := hid hl
  clear hl
  have hn1 : ¬ (n ≤ 1) := by omega
  have hn2 : ¬ (n = 0) := by omega
  by_cases hn : 200 < n
  · go_enter Try.func77, Try.ntmps77
    go_wp2_with (first | (go_at_call 100; ((with_reducible refine (next_any HC.out HL.out (by omega)).mono ?_); rintro ee w1 ⟨v1, rfl, a1, b1, hC1, hK1⟩; have HC1 := hid hC1; clear hC1)) | (go_at_call 100; ((with_reducible refine (next_any HC1.out HL.out (by omega)).mono ?_); rintro ee w2 ⟨v2, rfl, a2, b2, hC2, hK2⟩; have HC2 := hid hC2; clear hC2)))
    go_ret
    have := Int.emod_lt_of_pos (v1 * 256 + v2) (show 0 < n by omega)
    have := Int.emod_nonneg (v1 * 256 + v2) (show n ≠ 0 by omega)
    refine ⟨_, rfl, ?_, ?_, HC2.out.mono (by omega), hK1.trans hK2⟩
    · omega
    · omega
  · go_enter Try.func77, Try.ntmps77
    go_wp2_with (first | (go_at_call 100; ((with_reducible refine (next_any HC.out HL.out (by omega)).mono ?_); rintro ee w1 ⟨v1, rfl, a1, b1, hC1, hK1⟩; have HC1 := hid hC1; clear hC1)))
    go_ret
    have := Int.emod_lt_of_pos v1 (show 0 < n by omega)
    have := Int.emod_nonneg v1 (show n ≠ 0 by omega)
    refine ⟨_, rfl, ?_, ?_, HC1.out.mono (by omega), hK1⟩
    · omega
    · omega

set_option maxRecDepth 100000 in
set_option maxHeartbeats 4000000 in
theorem one_any (n : Int) (h1 : 2 ≤ n) (h2 : n ≤ 100000) {g len cap M : Nat} {A : Option Addr} {w : World} (h : Cu w g A len cap M) (hl : (len : Int) ≤ 9223372036854775807) (hM : M ≤ 5000000000) :
    Calls Try.prog 72 #[.pointer (some ⟨g, 0, none⟩), .int .i64 n] w fun e w' => ∃ v : Bool, e = .returned (.bool v) ∧ Cu w' g A len cap (M + 2) ∧ Kp g w w' := by
  have HC := hid h
  clear h
  have HL := hid hl
  clear hl
  go_enter Try.func72, Try.ntmps72
  go_wp2_with (first | (go_at_call 77; ((with_reducible refine (pick_any _ h1 h2 HC.out HL.out (by omega)).mono ?_); rintro ee w1 ⟨v1, rfl, a1, b1, hC1, hK1⟩; have HC1 := hid hC1; clear hC1)))
  go_ret
  exact ⟨_, rfl, HC1.out, hK1⟩

set_option maxRecDepth 100000 in
set_option maxHeartbeats 4000000 in
theorem among_any (b o n cp : Nat) (h1 : 2 ≤ n) (h2 : n ≤ 1000) {g len cap M : Nat} {A : Option Addr} {w : World} (h : Cu w g A len cap M) (hl : (len : Int) ≤ 9223372036854775807) (hM : M ≤ 5000000000) (hb : b ≠ g) (hz : ∀ i, i < n → ∃ z : Int, w.cell? ⟨b, o + i, none⟩ = some (.int .i64 z)) :
    Calls Try.prog 76 #[.pointer (some ⟨g, 0, none⟩), .slice (some ⟨b, o, none⟩) n cp] w fun e w' => ∃ v : Int, e = .returned (.int .i64 v) ∧ (∃ i, i < n ∧ w.cell? ⟨b, o + i, none⟩ = some (.int .i64 v)) ∧ Cu w' g A len cap (M + 2) ∧ Kp g w w' := by
  have HC := hid h
  clear h
  have HL := hid hl
  clear hl
  have HZ := hid hz
  clear hz
  have hn3 : (n : Int) ≤ 1000 := by omega
  have HN := hid (show (2 : Int) ≤ (n : Int) by omega)
  have HN2 := hid (show (n : Int) ≤ 100000 by omega)
  go_enter Try.func76, Try.ntmps76
  go_wp2_with (first | (go_at_call 77; ((with_reducible refine (pick_any _ HN.out HN2.out HC.out HL.out (by omega)).mono ?_); rintro ee w1 ⟨v1, rfl, a1, b1, hC1, hK1⟩; have HC1 := hid hC1; clear hC1; obtain ⟨i, rfl⟩ := Int.eq_ofNat_of_zero_le a1; obtain ⟨z, hz⟩ := HZ.out i (by omega); have hzz : w1.cell? ⟨b, o + i, none⟩ = some (.int .i64 z) := (hK1.cell (World.block_lt_of_cell? w _ hz) hb).trans hz)))
  go_ret
  exact ⟨_, rfl, ⟨i, by omega, hz⟩, HC1.out, hK1⟩
end Go.Proofs.Ytefmglofnoinmaa
