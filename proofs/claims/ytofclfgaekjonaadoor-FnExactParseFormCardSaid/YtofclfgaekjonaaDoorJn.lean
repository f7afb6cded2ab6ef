/- strings.Join of three texts. -/
import Derived.Test.YtofclfgaekjonaaDoorFn2
import Derived.Test.YtofclfgaekjonaaDoorBs
namespace Go.Proofs.YtofclfgaekjonaaDoor
open Go.RowKit RM
set_option linter.unusedVariables false
set_option linter.unusedSimpArgs false
attribute [local irreducible] World.setCell

theorem lay0 {p : Prop} (h : p) : Hid p := h
/-- the bytes of a text -/
def bys (s : ByteArray) : List Value := Lib.byteCells s.data.toList
theorem bys_app (s t : ByteArray) : bys s ++ Lib.strCells t = bys (s ++ t) := by
  unfold bys
  rw [Lib.strCells_eq, ← Lib.byteCells_append, ByteArray.data_append, Array.toList_append]
theorem bys_len (s : ByteArray) : (bys s).length = s.size := by
  unfold bys
  rw [Lib.byteCells_length, Array.length_toList]
  rfl
theorem bys_nil : ([] : List Value) = bys ⟨#[]⟩ := rfl
theorem ba_nil (s : ByteArray) : (⟨#[]⟩ : ByteArray) ++ s = s := by
  apply ByteArray.ext
  rw [ByteArray.data_append]
  simp
theorem bsz {s t : ByteArray} : (s ++ t).size = s.size + t.size := ByteArray.size_append
/-- three texts with a blank between them -/
def jac (a b c : ByteArray) : Nat → ByteArray
  | 0 => a
  | 1 => a ++ ⟨#[32]⟩ ++ b
  | _ => a ++ ⟨#[32]⟩ ++ b ++ ⟨#[32]⟩ ++ c
theorem spz : (⟨#[32]⟩ : ByteArray).size = 1 := rfl
set_option maxRecDepth 100000 in
set_option maxHeartbeats 8000000 in
theorem join3 {g : Nat} {a b c : ByteArray} {w : World} (hg : g < w.heap.size) (c0 : w.cell? ⟨g, 0, none⟩ = some (.string a)) (c1 : w.cell? ⟨g, 1, none⟩ = some (.string b)) (c2 : w.cell? ⟨g, 2, none⟩ = some (.string c)) (ha : a.size ≤ 4096) (hb : b.size ≤ 4096) (hc : c.size ≤ 4096) :
    Calls Tryd.prog 31 #[.slice (some ⟨g, 0, none⟩) 3 3, .string ⟨#[32]⟩] w fun ee w' => ee = .returned (.string (jac a b c 2)) ∧ Below w.heap.size w w' := by
  have B0 := lay0 ((Below.refl w.heap.size w).alloc (Nat.le_refl _) (.cells #[.pointer none, .slice none 0 0] 82))
  have hsz := spz
  go_enter Tryd.func31, Tryd.ntmps31
  go_wp2_with (fail)
  go_loopg [5, 41] 3 (fun k s5 s41 wr => ∃ j n : Nat, j + k = 3 ∧ s41 = .int .i64 (j : Int) ∧ s5 = .int .i64 (n : Int) ∧ n ≤ 2 + 4096 * j ∧ w = wr)
  case atStart => exact ⟨0, 2, rfl, rfl, rfl, by omega, rfl⟩
  case round =>
    obtain ⟨j, n, hj, rfl, rfl, hn, rfl⟩ := hrel
    have hk : gk = 0 ∨ gk = 1 ∨ gk = 2 ∨ gk = 3 := by omega
    rcases hk with rfl | rfl | rfl | rfl
    · obtain rfl : j = 3 := by omega
      clear hj
      go_wp2_with (go_at_call 45; refine (Tryd.Builder_Grow_fresh w.heap.size w.heap.size n _ (Nat.le_refl _) ?bk ?bl (by omega)).mono ?_)
      case bk => exact heap_alloc_new w _
      case bl => simp only [World.size_alloc]; omega
      rintro ee w2 ⟨rfl, hB2, hb2⟩
      have IB2 := lay0 (Or.inr hB2 : Lib.IsBuilder 82 5 w.heap.size w.heap.size [] w2)
      have HB2 := lay0 (B0.out.trans hb2)
      clear hB2 hb2 B0
      have z2 := HB2.out.size
      have e0 := (HB2.out.cell (p := ⟨g, 0, none⟩) hg).trans c0
      go_wp2_with (go_at_call 46; refine (bws w.heap.size w.heap.size _ a _ IB2.out (by simp; omega) (by omega)).mono ?_)
      rintro ee w3 ⟨rfl, hB3, hb3⟩
      have IB3 : Hid (Lib.IsBuilder 82 5 w.heap.size w.heap.size (bys (jac a b c 0)) w3) := by
        have h1 := hB3
        rw [bys_nil, bys_app, ba_nil] at h1
        exact Or.inr h1
      have HB3 := lay0 (HB2.out.trans hb3)
      clear hB3 hb3 IB2 HB2 e0 z2
      go_wp2_with (fail)
      go_loopg [65] 2 (fun k s65 wr => ∃ j : Nat, j + k = 2 ∧ s65 = .int .i64 (j : Int) ∧ Hid (Lib.IsBuilder 82 5 w.heap.size w.heap.size (bys (jac a b c j)) wr) ∧ Hid (Below w.heap.size w wr))
      case atStart => exact ⟨0, rfl, rfl, IB3, HB3⟩
      case round =>
        clear IB3 HB3
        obtain ⟨j, hj, rfl, IB, HB⟩ := hrel
        have hk : gk = 0 ∨ gk = 1 ∨ gk = 2 := by omega
        rcases hk with rfl | rfl | rfl
        · obtain rfl : j = 2 := by omega
          go_wp2_with (go_at_call 48; refine (Tryd.Builder_String_any w.heap.size w.heap.size (jac a b c 2).data.toList _ IB.out HB.out.size).mono ?_)
          rintro ee w4 rfl hb4
          have hb5 := HB.out.trans hb4
          go_wp2_with (fail)
          go_ret
          exact ⟨rfl, hb5⟩
        · obtain rfl : j = 1 := by omega
          have z2 := HB.out.size
          have e0 := (HB.out.cell (p := ⟨g, 2, none⟩) hg).trans c2
          go_wp2_with (go_at_call 46; refine (bws w.heap.size w.heap.size _ ⟨#[32]⟩ _ IB.out (by rw [bys_len]; simp only [jac, bsz, hsz]; omega) (by omega)).mono ?_)
          rintro ee w3 rfl hB3 hb3
          have IB3 : Hid (Lib.IsBuilder 82 5 w.heap.size w.heap.size (bys (jac a b c 1 ++ ⟨#[32]⟩)) w3) := by
            have h1 := hB3
            rw [bys_app] at h1
            exact Or.inr h1
          have HB3 := lay0 (HB.out.trans hb3)
          clear hB3 hb3 IB HB e0 z2
          have z3 := HB3.out.size
          go_wp2_with (go_at_call 46; refine (bws w.heap.size w.heap.size _ c _ IB3.out (by rw [bys_len]; simp only [jac, bsz, hsz]; omega) (by omega)).mono ?_)
          rintro ee w4 ⟨rfl, hB4, hb4⟩
          have IB4 : Hid (Lib.IsBuilder 82 5 w.heap.size w.heap.size (bys (jac a b c 2)) w4) := by
            have h1 := hB4
            rw [bys_app] at h1
            exact Or.inr h1
          have HB4 := lay0 (HB3.out.trans hb4)
          clear hB4 hb4 IB3 HB3
          go_wp2_with (fail)
          go_roundg 0
          case measure => omega
          case rel => exact ⟨2, by omega, by go_num, IB4, HB4⟩
        · obtain rfl : j = 0 := by omega
          have z2 := HB.out.size
          have e0 := (HB.out.cell (p := ⟨g, 1, none⟩) hg).trans c1
          go_wp2_with (go_at_call 46; refine (bws w.heap.size w.heap.size _ ⟨#[32]⟩ _ IB.out (by rw [bys_len]; simp only [jac, bsz, hsz]; omega) (by omega)).mono ?_)
          rintro ee w3 rfl hB3 hb3
          have IB3 : Hid (Lib.IsBuilder 82 5 w.heap.size w.heap.size (bys (jac a b c 0 ++ ⟨#[32]⟩)) w3) := by
            have h1 := hB3
            rw [bys_app] at h1
            exact Or.inr h1
          have HB3 := lay0 (HB.out.trans hb3)
          clear hB3 hb3 IB HB e0 z2
          have z3 := HB3.out.size
          go_wp2_with (go_at_call 46; refine (bws w.heap.size w.heap.size _ b _ IB3.out (by rw [bys_len]; simp only [jac, bsz, hsz]; omega) (by omega)).mono ?_)
          rintro ee w4 ⟨rfl, hB4, hb4⟩
          have IB4 : Hid (Lib.IsBuilder 82 5 w.heap.size w.heap.size (bys (jac a b c 1)) w4) := by
            have h1 := hB4
            rw [bys_app] at h1
            exact Or.inr h1
          have HB4 := lay0 (HB3.out.trans hb4)
          clear hB4 hb4 IB3 HB3
          go_wp2_with (fail)
          go_roundg 1
          case measure => omega
          case rel => exact ⟨1, by omega, by go_num, IB4, HB4⟩
    · obtain rfl : j = 2 := by omega
      have a1 : ¬ ((c.size : Int) > 9223372036854775807 - (n : Int)) := by omega
      have a2 : (c.size : Int) ≤ 9223372036854775807 - (n : Int) := by omega
      clear B0
      go_wp2_with (fail)
      go_roundg 0
      case measure => omega
      case rel => exact ⟨3, n + c.size, by omega, by go_num, by go_num, by omega, rfl⟩
    · obtain rfl : j = 1 := by omega
      have a1 : ¬ ((b.size : Int) > 9223372036854775807 - (n : Int)) := by omega
      have a2 : (b.size : Int) ≤ 9223372036854775807 - (n : Int) := by omega
      clear B0
      go_wp2_with (fail)
      go_roundg 1
      case measure => omega
      case rel => exact ⟨2, n + b.size, by omega, by go_num, by go_num, by omega, rfl⟩
    · obtain rfl : j = 0 := by omega
      have a1 : ¬ ((a.size : Int) > 9223372036854775807 - (n : Int)) := by omega
      have a2 : (a.size : Int) ≤ 9223372036854775807 - (n : Int) := by omega
      clear B0
      go_wp2_with (fail)
      go_roundg 2
      case measure => omega
      case rel => exact ⟨1, n + a.size, by omega, by go_num, by go_num, by omega, rfl⟩
end Go.Proofs.YtofclfgaekjonaaDoor
