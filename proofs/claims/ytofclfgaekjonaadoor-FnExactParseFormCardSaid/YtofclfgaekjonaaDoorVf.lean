/- Runes: what a range over a string yields; ContainsRune over the letters. -/
import Derived.Test.YtofclfgaekjonaaDoorValid
import Derived.Laws.RangeString
import Derived.Laws.Runes
import Derived.Lib.Bytealg
import Derived.Lib.IndexLaws
import Derived.BigQuiet
import Derived.Deep.QuietTactic
import Derived.Deep.Draws
import Derived.Laws.Strings3
import Derived.Lib.Strings
import Derived.WalkMore
import Derived.Deep.LoopGhost
namespace Go.Proofs.YtofclfgaekjonaaDoor
open Go.RowKit RM
set_option linter.unusedVariables false
set_option linter.unusedSimpArgs false
attribute [local irreducible] World.setCell

/-- a byte of 128 or more: the rune is 128 or more, and a code point -/
theorem decode_big (s : ByteArray) (pos : Nat) (h : pos < s.size) (ha : ¬ ((s[pos]'h).toNat < 128)) :
    128 ≤ (Utf8.decode s pos).1 ∧ Utf8.valid ((Utf8.decode s pos).1 : Int) = true ∧ ((Utf8.decode s pos).1 : Int) ≤ 1114111 := by
  have e : s.get! (pos + 0) = s[pos]'h := by
    show s.get! pos = _
    simp [ByteArray.get!, getElem!_pos, h]
    rfl
  have hv : Utf8.valid (Utf8.runeError : Int) = true := by decide
  have hr : 128 ≤ Utf8.runeError ∧ Utf8.valid (Utf8.runeError : Int) = true ∧ (Utf8.runeError : Int) ≤ 1114111 := ⟨by decide, hv, by decide⟩
  have two : ∀ n : Nat, n < 2048 → Utf8.valid (n : Int) = true := by
    intro n hn; unfold Utf8.valid; simp; omega
  have le : ∀ n : Nat, Utf8.valid (n : Int) = true → (n : Int) ≤ 1114111 := by
    intro n hn; unfold Utf8.valid at hn; simp at hn; omega
  simp only [Utf8.decode, e, ha, if_false]
  split
  · split
    · rename_i h1 h2
      have hlt : (s[pos]'h).toNat % 32 * 64 + (s.get! (pos + 1)).toNat % 64 < 2048 := by omega
      exact ⟨h2, two _ hlt, le _ (two _ hlt)⟩
    · exact hr
  · split
    · split
      · rename_i h1 h2
        simp only [Bool.and_eq_true, decide_eq_true_eq] at h2
        exact ⟨by omega, h2.2, le _ h2.2⟩
      · exact hr
    · split
      · split
        · rename_i h1 h2
          simp only [Bool.and_eq_true, decide_eq_true_eq] at h2
          exact ⟨by omega, h2.2, le _ h2.2⟩
        · exact hr
      · exact hr
section
variable {P : Program}
theorem run_next_any (w : World) (s : ByteArray) (pos : Nat) (ty : TypeId) (h : pos < s.size) :
    (Instr.next (.pointer (some ⟨w.heap.size, 0, none⟩)) true ty).run P (w.iter s pos) =
      .ok (.tuple #[.bool true, .int .i64 pos, .int .i32 (Utf8.decode s pos).1]) (w.iter s (pos + (Utf8.decode s pos).2)) := by
  simp only [Instr.next, getObj, setObj, Sem.run_bind, Sem.run, World.iter_heap, Result.andThen, h, if_true, World.iter_set]
  simp [goInt, Sem.run, World.iter_heap, World.iter_set]
end
set_option maxRecDepth 100000 in
set_option maxHeartbeats 2000000 in
theorem ib_1 (s : ByteArray) (c : Int) (w : World) :
    Calls Tryd.prog 94 #[.string s, .int .u8 c] w fun ee w' => ee = .returned (.int .i64 (Lib.indexByte s.data.toList c.toNat.toUInt8)) ∧ w = w' := by
  go_enter Tryd.func94, Tryd.ntmps94
  go_wp2_with (fail)
  rw [run_callFunc_extern Tryd.func113 (by kernel_rfl) (by kernel_rfl) (by kernel_rfl) (e := Extern.BytealgIndexByte.indexByte) (by kernel_rfl), Lib.run_indexByteString]
  simp only [Result.andThen]
  rw [Oper.upon_value]
  go_wp2_with (fail)
  go_ret
  exact ⟨rfl, rfl⟩

set_option maxRecDepth 100000 in
set_option maxHeartbeats 2000000 in
theorem ib_2 (s : ByteArray) (c : Int) (w : World) :
    Calls Tryd.prog 82 #[.string s, .int .u8 c] w fun ee w' => ee = .returned (.int .i64 (Lib.indexByte s.data.toList c.toNat.toUInt8)) ∧ w = w' := by
  go_enter Tryd.func82, Tryd.ntmps82
  go_wp2_with ((go_at_call 94; ((refine (ib_1 _ _ _).mono ?_); rintro ee w1 ⟨rfl, rfl⟩)))
  go_ret
  exact ⟨rfl, rfl⟩

set_option maxRecDepth 100000 in
set_option maxHeartbeats 2000000 in
theorem ir_a (s : ByteArray) (r : Int) (w : World) (h0 : 0 ≤ r) (h1 : r < 128) :
    Calls Tryd.prog 58 #[.string s, .int .i32 r] w fun ee w' => ee = .returned (.int .i64 (Lib.indexByte s.data.toList r.toNat.toUInt8)) ∧ w = w' := by
  go_enter Tryd.func58, Tryd.ntmps58
  go_wp2_with ((go_at_call 82; ((refine (ib_2 _ _ _).mono ?_); rintro ee w1 ⟨rfl, rfl⟩)))
  go_ret
  exact ⟨rfl, rfl⟩

set_option maxRecDepth 100000 in
set_option maxHeartbeats 2000000 in
theorem vr_u (r : Int) (w : World) (h : (0 ≤ r ∧ r < 55296) ∨ (57343 < r ∧ r ≤ 1114111)) :
    Calls Tryd.prog 83 #[.int .i32 r] w fun ee w' => ee = .returned (.bool true) ∧ w = w' := by
  rcases h with ⟨h1, h2⟩ | ⟨h1, h2⟩
  · go_enter Tryd.func83, Tryd.ntmps83
    go_wp2_with (fail)
    go_ret
    exact ⟨rfl, rfl⟩
  · have h3 : 0 ≤ r := by omega
    have h4 : ¬ (r < 55296) := by omega
    go_enter Tryd.func83, Tryd.ntmps83
    go_wp2_with (fail)
    go_ret
    exact ⟨rfl, rfl⟩

theorem b_drew {B : Nat} {a w : World} (h : Below B a w) (n : Nat) : Below B a (w.drewN n) := h.trans ⟨rfl, rfl, rfl, Nat.le_refl _, fun _ _ => rfl⟩
theorem bytes2 {N : ByteArray} (h : N.size = 2) : ∃ x y, N = ByteArray.mk #[x, y] := by
  obtain ⟨⟨l⟩⟩ := N
  match l, h with
  | [x, y], _ => exact ⟨x, y, rfl⟩
theorem bytes3 {N : ByteArray} (h : N.size = 3) : ∃ u x y, N = ByteArray.mk #[u, x, y] := by
  obtain ⟨⟨l⟩⟩ := N
  match l, h with
  | [u, x, y], _ => exact ⟨u, x, y, rfl⟩
theorem bytes4 {N : ByteArray} (h : N.size = 4) : ∃ t u x y, N = ByteArray.mk #[t, u, x, y] := by
  obtain ⟨⟨l⟩⟩ := N
  match l, h with
  | [t, u, x, y], _ => exact ⟨t, u, x, y, rfl⟩
set_option maxRecDepth 100000 in
set_option maxHeartbeats 2000000 in
theorem ib_n (t : ByteArray) (c : Int) (w : World) (ht : ∀ b ∈ t.data.toList, b.toNat < 128) (h1 : 128 ≤ c) (h2 : c ≤ 255) :
    Calls Tryd.prog 82 #[.string t, .int .u8 c] w fun ee w' => ee = .returned (.int .i64 (-1)) ∧ w' = w := by
  refine (ib_2 t c w).mono ?_
  rintro ee w1 ⟨rfl, rfl⟩
  refine ⟨?_, rfl⟩
  have h : Lib.indexByte t.data.toList c.toNat.toUInt8 = -1 := by
    rw [← Lib.firstIdx_eq]
    refine firstIdx_none _ _ fun b hb hbc => ?_
    have := ht b hb
    rw [hbc] at this
    have h3 : (c.toNat.toUInt8).toNat = c.toNat := by simp; omega
    omega
  rw [h]

set_option maxRecDepth 100000 in
set_option maxHeartbeats 4000000 in
theorem ir_e_a (w : World) :
    Calls Tryd.prog 58 #[.string (ByteArray.mk #[84, 72, 83]), .int .i32 65533] w fun ee w' => ee = .returned (.int .i64 (-1)) ∧ Below w.heap.size w w' := by
  obtain ⟨s, hs⟩ : ∃ s, s = ByteArray.mk #[84, 72, 83] := ⟨_, rfl⟩
  have hz : s.size = 3 := by rw [hs]; rfl
  have ha : ∀ (i : Nat) (h : i < s.size), (s[i]'h).toNat < 128 := by
    subst hs; decide +kernel
  rw [← hs]
  have HA := hid ha
  have HZ := hid hz
  clear hs ha hz
  go_enter Tryd.func58, Tryd.ntmps58
  go_wp2_with (fail)
  go_loopg [] 3 (fun q wr => ∃ j : Nat, j + q = 3 ∧ w.iter s j = wr)
  case atStart => exact ⟨0, by omega, rfl⟩
  case round =>
    obtain ⟨j, hj, rfl⟩ := hrel
    cases gk with
    | zero =>
      have hn := fun ty => run_next_end (P := Tryd.prog) w s j ty (by rw [HZ.out]; omega)
      go_wp2_with (fail)
      go_ret
      exact ⟨rfl, (Below.refl _ _).alloc (Nat.le_refl _) _⟩
    | succ m =>
      have hlt : j < s.size := by rw [HZ.out]; omega
      have hv := HA.out j hlt
      have hn := fun ty => run_next_ascii (P := Tryd.prog) w s j ty hlt hv
      obtain ⟨v, hv2⟩ : ∃ v : Nat, v = (s[j]'hlt).toNat := ⟨_, rfl⟩
      rw [← hv2] at hv hn
      clear hv2 hlt
      have h5 : ¬ ((v : Int) = 65533) := by omega
      go_wp2_with (fail)
      go_roundg m
      case measure => omega
      case rel => exact ⟨j + 1, by omega, rfl⟩

set_option maxRecDepth 100000 in
set_option maxHeartbeats 4000000 in
theorem ir_b_a (r : Int) (w : World) (h0 : 128 ≤ r) (hv : (0 ≤ r ∧ r < 55296) ∨ (57343 < r ∧ r ≤ 1114111)) (hne : ¬ (r = 65533)) :
    Calls Tryd.prog 58 #[.string (ByteArray.mk #[84, 72, 83]), .int .i32 r] w fun ee w' => ee = .returned (.int .i64 (-1)) ∧ Below w.heap.size w w' := by
  have h1 : ¬ (r < 128) := by omega
  have h2 : 0 ≤ r := by omega
  have hval : Utf8.valid r = true := by rw [validRune_eq]; exact decide_eq_true hv
  obtain ⟨e1, e2, e3⟩ := encode_facts r hval h0
  have HV := hid hv
  clear hv hval
  obtain ⟨N, hN⟩ : ∃ N, N = Utf8.encode r := ⟨_, rfl⟩
  rw [← hN] at e1 e2
  have e4 : ∀ h : N.size - 1 < N.size, 128 ≤ (N[N.size - 1]'h).toNat := by subst hN; exact e3
  clear e3
  have e3 := e4
  clear e4
  have eN := hid hN
  clear hN
  rcases (show N.size = 2 ∨ N.size = 3 ∨ N.size = 4 by omega) with hs | hs | hs
  · obtain ⟨x, y, rfl⟩ := bytes2 hs
    have hy : 128 ≤ y.toNat := e3 (by show 1 < 2; decide)
    have hy2 : y.toNat ≤ 255 := by have := y.toNat_lt; omega
    clear e3 hs
    have EN := eN
    clear eN
    have HE : Utf8.encode r = ByteArray.mk #[x, y] := EN.out.symm
    clear EN
    have hq0 : ¬ ((84 : Int) = (y.toNat : Int)) := by omega
    have hq1 : ¬ ((72 : Int) = (y.toNat : Int)) := by omega
    have hq2 : ¬ ((83 : Int) = (y.toNat : Int)) := by omega
    go_enter Tryd.func58, Tryd.ntmps58
    go_wp2_with ((go_at_call 83; ((refine (vr_u _ _ HV.out).mono ?_); rintro ee w1 ⟨rfl, rfl⟩)))
    go_step3
    go_wp2_with (fail)
    go_loopg [9, 10] 1 (fun q s9 s10 wr => q = 1 ∧ s9 = .int .i64 1 ∧ s10 = .int .i64 0 ∧ w = wr)
    case atStart => exact ⟨rfl, rfl, rfl, rfl⟩
    case round =>
      obtain ⟨hq, rfl, rfl, rfl⟩ := hrel
      go_wp2_with (fail)
      have hr0 : ¬ (((((ByteArray.mk #[84, 72, 83])[1]'(by decide)).toNat : Nat) : Int) = ((((ByteArray.mk #[x, y])[1]'(by show 1 < 2; decide)).toNat : Nat) : Int)) := by show ¬ ((72 : Int) = (y.toNat : Int)); omega
      have hr1 : (((((ByteArray.mk #[84, 72, 83])[1]'(by decide)).toNat : Nat) : Int) == ((((ByteArray.mk #[x, y])[1]'(by show 1 < 2; decide)).toNat : Nat) : Int)) = false := by simpa using hr0
      have hr2 : (((((ByteArray.mk #[84, 72, 83])[1]'(by decide)).toNat : Nat) : Int) != ((((ByteArray.mk #[x, y])[1]'(by show 1 < 2; decide)).toNat : Nat) : Int)) = true := by simpa using hr0
      go_step3
      go_wp2_with (fail)
      go_quiet (fail)
      have hB3 : Below w.heap.size w (w.drewN nq) := b_drew (Below.refl _ _) _
      generalize w.drewN nq = w3 at hB3 ⊢
      have ws : IntKind.i64.wrap 2 = 2 := by decide
      go_wp2_with (fail)
      go_quiet ((go_at_call 82; exact Calls.quiet_of_same (ib_n _ _ _ (fun b hb => by first | exact (show ∀ b ∈ (ByteArray.mk #[84, 72, 83]).data.toList, b.toNat < 128 by decide) b (mem_extract hb) | exact absurd hb (by show ¬ (b ∈ []); simp)) (by show (128 : Int) ≤ (y.toNat : Int); omega) (by show (y.toNat : Int) ≤ 255; omega))))
      go_wp2_with (fail)
      simp only [Exit.noGoto, Exit.inBlock, Exit.then]
      go_ret
      exact ⟨rfl, b_drew hB3 _⟩
  · obtain ⟨u, x, y, rfl⟩ := bytes3 hs
    have hy : 128 ≤ y.toNat := e3 (by show 2 < 3; decide)
    have hy2 : y.toNat ≤ 255 := by have := y.toNat_lt; omega
    clear e3 hs
    have EN := eN
    clear eN
    have HE : Utf8.encode r = ByteArray.mk #[u, x, y] := EN.out.symm
    clear EN
    have hq0 : ¬ ((84 : Int) = (y.toNat : Int)) := by omega
    have hq1 : ¬ ((72 : Int) = (y.toNat : Int)) := by omega
    have hq2 : ¬ ((83 : Int) = (y.toNat : Int)) := by omega
    go_enter Tryd.func58, Tryd.ntmps58
    go_wp2_with ((go_at_call 83; ((refine (vr_u _ _ HV.out).mono ?_); rintro ee w1 ⟨rfl, rfl⟩)))
    go_step3
    go_wp2_with (fail)
    go_loopg [9, 10] 1 (fun q s9 s10 wr => q = 1 ∧ s9 = .int .i64 2 ∧ s10 = .int .i64 0 ∧ w = wr)
    case atStart => exact ⟨rfl, rfl, rfl, rfl⟩
    case round =>
      obtain ⟨hq, rfl, rfl, rfl⟩ := hrel
      go_wp2_with (fail)
      have hr0 : ¬ (((((ByteArray.mk #[84, 72, 83])[2]'(by decide)).toNat : Nat) : Int) = ((((ByteArray.mk #[u, x, y])[2]'(by show 2 < 3; decide)).toNat : Nat) : Int)) := by show ¬ ((83 : Int) = (y.toNat : Int)); omega
      have hr1 : (((((ByteArray.mk #[84, 72, 83])[2]'(by decide)).toNat : Nat) : Int) == ((((ByteArray.mk #[u, x, y])[2]'(by show 2 < 3; decide)).toNat : Nat) : Int)) = false := by simpa using hr0
      have hr2 : (((((ByteArray.mk #[84, 72, 83])[2]'(by decide)).toNat : Nat) : Int) != ((((ByteArray.mk #[u, x, y])[2]'(by show 2 < 3; decide)).toNat : Nat) : Int)) = true := by simpa using hr0
      go_step3
      go_wp2_with (fail)
      go_quiet (fail)
      have hB3 : Below w.heap.size w (w.drewN nq) := b_drew (Below.refl _ _) _
      generalize w.drewN nq = w3 at hB3 ⊢
      have ws : IntKind.i64.wrap 3 = 3 := by decide
      go_wp2_with (fail)
      go_quiet ((go_at_call 82; exact Calls.quiet_of_same (ib_n _ _ _ (fun b hb => by first | exact (show ∀ b ∈ (ByteArray.mk #[84, 72, 83]).data.toList, b.toNat < 128 by decide) b (mem_extract hb) | exact absurd hb (by show ¬ (b ∈ []); simp)) (by show (128 : Int) ≤ (y.toNat : Int); omega) (by show (y.toNat : Int) ≤ 255; omega))))
      go_wp2_with (fail)
      simp only [Exit.noGoto, Exit.inBlock, Exit.then]
      go_ret
      exact ⟨rfl, b_drew hB3 _⟩
  · obtain ⟨t, u, x, y, rfl⟩ := bytes4 hs
    have hy : 128 ≤ y.toNat := e3 (by show 3 < 4; decide)
    have hy2 : y.toNat ≤ 255 := by have := y.toNat_lt; omega
    clear e3 hs
    have EN := eN
    clear eN
    have HE : Utf8.encode r = ByteArray.mk #[t, u, x, y] := EN.out.symm
    clear EN
    have hq0 : ¬ ((84 : Int) = (y.toNat : Int)) := by omega
    have hq1 : ¬ ((72 : Int) = (y.toNat : Int)) := by omega
    have hq2 : ¬ ((83 : Int) = (y.toNat : Int)) := by omega
    go_enter Tryd.func58, Tryd.ntmps58
    go_wp2_with ((go_at_call 83; ((refine (vr_u _ _ HV.out).mono ?_); rintro ee w1 ⟨rfl, rfl⟩)))
    go_step3
    go_wp2_with (fail)
    go_loopg [9, 10] 1 (fun q s9 s10 wr => q = 1 ∧ s9 = .int .i64 3 ∧ s10 = .int .i64 0 ∧ w = wr)
    case atStart => exact ⟨rfl, rfl, rfl, rfl⟩
    case round =>
      obtain ⟨hq, rfl, rfl, rfl⟩ := hrel
      go_wp2_with (fail)
      simp only [Exit.noGoto, Exit.inBlock, Exit.then]
      go_ret
      exact ⟨rfl, Below.refl _ _⟩

set_option maxRecDepth 100000 in
set_option maxHeartbeats 4000000 in
theorem ir_e_b (w : World) :
    Calls Tryd.prog 58 #[.string (ByteArray.mk #[72, 83]), .int .i32 65533] w fun ee w' => ee = .returned (.int .i64 (-1)) ∧ Below w.heap.size w w' := by
  obtain ⟨s, hs⟩ : ∃ s, s = ByteArray.mk #[72, 83] := ⟨_, rfl⟩
  have hz : s.size = 2 := by rw [hs]; rfl
  have ha : ∀ (i : Nat) (h : i < s.size), (s[i]'h).toNat < 128 := by
    subst hs; decide +kernel
  rw [← hs]
  have HA := hid ha
  have HZ := hid hz
  clear hs ha hz
  go_enter Tryd.func58, Tryd.ntmps58
  go_wp2_with (fail)
  go_loopg [] 2 (fun q wr => ∃ j : Nat, j + q = 2 ∧ w.iter s j = wr)
  case atStart => exact ⟨0, by omega, rfl⟩
  case round =>
    obtain ⟨j, hj, rfl⟩ := hrel
    cases gk with
    | zero =>
      have hn := fun ty => run_next_end (P := Tryd.prog) w s j ty (by rw [HZ.out]; omega)
      go_wp2_with (fail)
      go_ret
      exact ⟨rfl, (Below.refl _ _).alloc (Nat.le_refl _) _⟩
    | succ m =>
      have hlt : j < s.size := by rw [HZ.out]; omega
      have hv := HA.out j hlt
      have hn := fun ty => run_next_ascii (P := Tryd.prog) w s j ty hlt hv
      obtain ⟨v, hv2⟩ : ∃ v : Nat, v = (s[j]'hlt).toNat := ⟨_, rfl⟩
      rw [← hv2] at hv hn
      clear hv2 hlt
      have h5 : ¬ ((v : Int) = 65533) := by omega
      go_wp2_with (fail)
      go_roundg m
      case measure => omega
      case rel => exact ⟨j + 1, by omega, rfl⟩

set_option maxRecDepth 100000 in
set_option maxHeartbeats 4000000 in
theorem ir_b_b (r : Int) (w : World) (h0 : 128 ≤ r) (hv : (0 ≤ r ∧ r < 55296) ∨ (57343 < r ∧ r ≤ 1114111)) (hne : ¬ (r = 65533)) :
    Calls Tryd.prog 58 #[.string (ByteArray.mk #[72, 83]), .int .i32 r] w fun ee w' => ee = .returned (.int .i64 (-1)) ∧ Below w.heap.size w w' := by
  have h1 : ¬ (r < 128) := by omega
  have h2 : 0 ≤ r := by omega
  have hval : Utf8.valid r = true := by rw [validRune_eq]; exact decide_eq_true hv
  obtain ⟨e1, e2, e3⟩ := encode_facts r hval h0
  have HV := hid hv
  clear hv hval
  obtain ⟨N, hN⟩ : ∃ N, N = Utf8.encode r := ⟨_, rfl⟩
  rw [← hN] at e1 e2
  have e4 : ∀ h : N.size - 1 < N.size, 128 ≤ (N[N.size - 1]'h).toNat := by subst hN; exact e3
  clear e3
  have e3 := e4
  clear e4
  have eN := hid hN
  clear hN
  rcases (show N.size = 2 ∨ N.size = 3 ∨ N.size = 4 by omega) with hs | hs | hs
  · obtain ⟨x, y, rfl⟩ := bytes2 hs
    have hy : 128 ≤ y.toNat := e3 (by show 1 < 2; decide)
    have hy2 : y.toNat ≤ 255 := by have := y.toNat_lt; omega
    clear e3 hs
    have EN := eN
    clear eN
    have HE : Utf8.encode r = ByteArray.mk #[x, y] := EN.out.symm
    clear EN
    have hq0 : ¬ ((84 : Int) = (y.toNat : Int)) := by omega
    have hq1 : ¬ ((72 : Int) = (y.toNat : Int)) := by omega
    have hq2 : ¬ ((83 : Int) = (y.toNat : Int)) := by omega
    go_enter Tryd.func58, Tryd.ntmps58
    go_wp2_with ((go_at_call 83; ((refine (vr_u _ _ HV.out).mono ?_); rintro ee w1 ⟨rfl, rfl⟩)))
    go_step3
    go_wp2_with (fail)
    go_loopg [9, 10] 1 (fun q s9 s10 wr => q = 1 ∧ s9 = .int .i64 1 ∧ s10 = .int .i64 0 ∧ w = wr)
    case atStart => exact ⟨rfl, rfl, rfl, rfl⟩
    case round =>
      obtain ⟨hq, rfl, rfl, rfl⟩ := hrel
      go_wp2_with (fail)
      have hr0 : ¬ (((((ByteArray.mk #[72, 83])[1]'(by decide)).toNat : Nat) : Int) = ((((ByteArray.mk #[x, y])[1]'(by show 1 < 2; decide)).toNat : Nat) : Int)) := by show ¬ ((83 : Int) = (y.toNat : Int)); omega
      have hr1 : (((((ByteArray.mk #[72, 83])[1]'(by decide)).toNat : Nat) : Int) == ((((ByteArray.mk #[x, y])[1]'(by show 1 < 2; decide)).toNat : Nat) : Int)) = false := by simpa using hr0
      have hr2 : (((((ByteArray.mk #[72, 83])[1]'(by decide)).toNat : Nat) : Int) != ((((ByteArray.mk #[x, y])[1]'(by show 1 < 2; decide)).toNat : Nat) : Int)) = true := by simpa using hr0
      go_step3
      go_wp2_with (fail)
      go_quiet (fail)
      have hB3 : Below w.heap.size w (w.drewN nq) := b_drew (Below.refl _ _) _
      generalize w.drewN nq = w3 at hB3 ⊢
      have ws : IntKind.i64.wrap 2 = 2 := by decide
      go_wp2_with (fail)
      go_quiet ((go_at_call 82; exact Calls.quiet_of_same (ib_n _ _ _ (fun b hb => by first | exact (show ∀ b ∈ (ByteArray.mk #[72, 83]).data.toList, b.toNat < 128 by decide) b (mem_extract hb) | exact absurd hb (by show ¬ (b ∈ []); simp)) (by show (128 : Int) ≤ (y.toNat : Int); omega) (by show (y.toNat : Int) ≤ 255; omega))))
      go_wp2_with (fail)
      simp only [Exit.noGoto, Exit.inBlock, Exit.then]
      go_ret
      exact ⟨rfl, b_drew hB3 _⟩
  · obtain ⟨u, x, y, rfl⟩ := bytes3 hs
    have hy : 128 ≤ y.toNat := e3 (by show 2 < 3; decide)
    have hy2 : y.toNat ≤ 255 := by have := y.toNat_lt; omega
    clear e3 hs
    have EN := eN
    clear eN
    have HE : Utf8.encode r = ByteArray.mk #[u, x, y] := EN.out.symm
    clear EN
    have hq0 : ¬ ((84 : Int) = (y.toNat : Int)) := by omega
    have hq1 : ¬ ((72 : Int) = (y.toNat : Int)) := by omega
    have hq2 : ¬ ((83 : Int) = (y.toNat : Int)) := by omega
    go_enter Tryd.func58, Tryd.ntmps58
    go_wp2_with ((go_at_call 83; ((refine (vr_u _ _ HV.out).mono ?_); rintro ee w1 ⟨rfl, rfl⟩)))
    go_step3
    go_wp2_with (fail)
    go_loopg [9, 10] 1 (fun q s9 s10 wr => q = 1 ∧ s9 = .int .i64 2 ∧ s10 = .int .i64 0 ∧ w = wr)
    case atStart => exact ⟨rfl, rfl, rfl, rfl⟩
    case round =>
      obtain ⟨hq, rfl, rfl, rfl⟩ := hrel
      go_wp2_with (fail)
      simp only [Exit.noGoto, Exit.inBlock, Exit.then]
      go_ret
      exact ⟨rfl, Below.refl _ _⟩
  · obtain ⟨t, u, x, y, rfl⟩ := bytes4 hs
    have hy : 128 ≤ y.toNat := e3 (by show 3 < 4; decide)
    have hy2 : y.toNat ≤ 255 := by have := y.toNat_lt; omega
    clear e3 hs
    have EN := eN
    clear eN
    have HE : Utf8.encode r = ByteArray.mk #[t, u, x, y] := EN.out.symm
    clear EN
    have hq0 : ¬ ((84 : Int) = (y.toNat : Int)) := by omega
    have hq1 : ¬ ((72 : Int) = (y.toNat : Int)) := by omega
    have hq2 : ¬ ((83 : Int) = (y.toNat : Int)) := by omega
    go_enter Tryd.func58, Tryd.ntmps58
    go_wp2_with ((go_at_call 83; ((refine (vr_u _ _ HV.out).mono ?_); rintro ee w1 ⟨rfl, rfl⟩)))
    go_step3
    go_wp2_with (fail)
    go_loopg [9, 10] 1 (fun q s9 s10 wr => q = 1 ∧ s9 = .int .i64 3 ∧ s10 = .int .i64 0 ∧ w = wr)
    case atStart => exact ⟨rfl, rfl, rfl, rfl⟩
    case round =>
      obtain ⟨hq, rfl, rfl, rfl⟩ := hrel
      go_wp2_with (fail)
      simp only [Exit.noGoto, Exit.inBlock, Exit.then]
      go_ret
      exact ⟨rfl, Below.refl _ _⟩


end Go.Proofs.YtofclfgaekjonaaDoor
