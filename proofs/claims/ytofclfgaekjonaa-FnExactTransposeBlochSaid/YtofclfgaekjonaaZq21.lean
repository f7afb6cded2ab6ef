/- Bic, OmegaIc -/
import Derived.Test.YtofclfgaekjonaaZq18
import Derived.Test.YtofclfgaekjonaaZq0
import Derived.Test.YtofclfgaekjonaaZq4
import Derived.Deep.RegionWith
namespace Go.Proofs.Ytofclfgaekjonaa
open Go.RowKit RM
set_option linter.unusedVariables false
set_option linter.unusedSimpArgs false
attribute [local irreducible] World.setCell

theorem ixr0 (w : World) : (Instr.index 107 (.agg #[.int .i64 1, .int .i64 0, .int .i64 0, .int .i64 0, .int .i64 1, .int .i64 0, .int .i64 0, .int .i64 0, .int .i64 1]) (.int .i64 0)).run Try.prog w = .ok (.agg #[.int .i64 1, .int .i64 0, .int .i64 0]) w := by kernel_rfl
theorem ixa00 (w : World) : (Instr.index 105 (.agg #[.int .i64 1, .int .i64 0, .int .i64 0]) (.int .i64 0)).run Try.prog w = .ok (.int .i64 1) w := by kernel_rfl
theorem ixa01 (w : World) : (Instr.index 105 (.agg #[.int .i64 1, .int .i64 0, .int .i64 0]) (.int .i64 1)).run Try.prog w = .ok (.int .i64 0) w := by kernel_rfl
theorem ixa02 (w : World) : (Instr.index 105 (.agg #[.int .i64 1, .int .i64 0, .int .i64 0]) (.int .i64 2)).run Try.prog w = .ok (.int .i64 0) w := by kernel_rfl
theorem ixr1 (w : World) : (Instr.index 107 (.agg #[.int .i64 1, .int .i64 0, .int .i64 0, .int .i64 0, .int .i64 1, .int .i64 0, .int .i64 0, .int .i64 0, .int .i64 1]) (.int .i64 1)).run Try.prog w = .ok (.agg #[.int .i64 0, .int .i64 1, .int .i64 0]) w := by kernel_rfl
theorem ixa10 (w : World) : (Instr.index 105 (.agg #[.int .i64 0, .int .i64 1, .int .i64 0]) (.int .i64 0)).run Try.prog w = .ok (.int .i64 0) w := by kernel_rfl
theorem ixa11 (w : World) : (Instr.index 105 (.agg #[.int .i64 0, .int .i64 1, .int .i64 0]) (.int .i64 1)).run Try.prog w = .ok (.int .i64 1) w := by kernel_rfl
theorem ixa12 (w : World) : (Instr.index 105 (.agg #[.int .i64 0, .int .i64 1, .int .i64 0]) (.int .i64 2)).run Try.prog w = .ok (.int .i64 0) w := by kernel_rfl
theorem ixr2 (w : World) : (Instr.index 107 (.agg #[.int .i64 1, .int .i64 0, .int .i64 0, .int .i64 0, .int .i64 1, .int .i64 0, .int .i64 0, .int .i64 0, .int .i64 1]) (.int .i64 2)).run Try.prog w = .ok (.agg #[.int .i64 0, .int .i64 0, .int .i64 1]) w := by kernel_rfl
theorem ixa20 (w : World) : (Instr.index 105 (.agg #[.int .i64 0, .int .i64 0, .int .i64 1]) (.int .i64 0)).run Try.prog w = .ok (.int .i64 0) w := by kernel_rfl
theorem ixa21 (w : World) : (Instr.index 105 (.agg #[.int .i64 0, .int .i64 0, .int .i64 1]) (.int .i64 1)).run Try.prog w = .ok (.int .i64 0) w := by kernel_rfl
theorem ixa22 (w : World) : (Instr.index 105 (.agg #[.int .i64 0, .int .i64 0, .int .i64 1]) (.int .i64 2)).run Try.prog w = .ok (.int .i64 1) w := by kernel_rfl
set_option maxRecDepth 100000 in
set_option maxHeartbeats 8000000 in
theorem rc_i {w : World} :
    Calls Try.prog 78 #[.agg #[.int .i64 1, .int .i64 0, .int .i64 0, .int .i64 0, .int .i64 1, .int .i64 0, .int .i64 0, .int .i64 0, .int .i64 1]] w fun ee w' => ∃ v, ee = .returned v ∧ Own5 w' w.heap.size 99 v (tab 9 (unitP 3 3)) ∧ Below w.heap.size w w' := by
  obtain ⟨i0, hi0, hu0, hu1, hu2⟩ := info_parts infoD
  obtain ⟨F, hF⟩ : ∃ F, F = unitP 3 3 := ⟨_, rfl⟩
  have HF := hid hF
  rw [← hF]
  clear hF
  go_enter Try.func78, Try.ntmps78
  go_wp2_with (fail)
  go_loopg [3, 9] 3 (fun q s3 s9 wr => ∃ (j : Nat) (v : Value), j + q = 3 ∧ s3 = v ∧ s9 = .int .i64 (j : Int) ∧ Hid (Own5 wr w.heap.size 99 v (tab (j * 3) F)) ∧ Below w.heap.size w wr)
  case atStart => exact ⟨0, .slice none 0 0, by omega, rfl, rfl, Own5.nil _ _ _, by (repeat' (first | (with_reducible exact Below.refl _ _) | (with_reducible assumption) | (with_reducible refine Below.alloc ?_ ?_ _) | (with_reducible refine Below.drew ?_) | (with_reducible refine below_drewN ?_ _) | (with_reducible refine Below.setCell ?_ ?_ _) | (with_reducible refine chain ?_ (by assumption) ?_) | omega | (simp; done) | (simp; omega)))⟩
  case round =>
    obtain ⟨j, v, hj, rfl, rfl, HO, hB⟩ := hrel
    have hBz := hB.size
    cases gk with
    | zero =>
      have j9 : ¬ ((j : Int) < 3) := by omega
      have hO9 := HO.out
      rw [show j * 3 = 9 by omega] at hO9
      have HO9 := hid hO9
      clear hO9
      go_wp2_with (fail)
      refine bodyPost_ret (v := u3) (by first | (simp only [results, Try.results78]; go_simp; done) | (simp [results, Try.results78, go_sem, *]; done)) rfl ?_
      first | exact ⟨_, rfl, HO9.out, hB⟩ | exact ⟨HO9.out, hB⟩
    | succ m9 =>
      have hltj : j < 3 := by omega
      have j1 : (j : Int) < 3 := by omega
      have HO1 : Hid (∀ o : Obj, Own5 (wr.alloc o) w.heap.size 99 u3 (tab (j * 3) F)) := fun o => World.ownsRow.alloc HO.out o
      have HB1 : Hid (∀ o : Obj, Below w.heap.size w (wr.alloc o)) := fun o => hB.alloc hBz o
      rcases (show j = 0 ∨ j = 1 ∨ j = 2 by omega) with h | h | h
      · have ej : (j : Int) = 0 := by omega
        have HK := hid h
        clear h
        have hxr := ixr0
        go_wp2_with (fail)
        clear hxr ej
        go_loopg [3, 13] 3 (fun q s3 s13 wr => ∃ (i : Nat) (v : Value), i + q = 3 ∧ s3 = v ∧ s13 = .int .i64 (i : Int) ∧ Hid (Own5 wr w.heap.size 99 v (tab (j * 3 + i) F)) ∧ Below w.heap.size w wr)
        case atStart => exact ⟨0, _, by omega, rfl, rfl, HO1.out _, HB1.out _⟩
        case round =>
          clear HO1 HB1 HO hB hBz
          obtain ⟨i, v, hi, rfl, rfl, HO, hB⟩ := hrel
          have hBz := hB.size
          cases gk with
          | zero =>
            have i9 : ¬ ((i : Int) < 3) := by omega
            have hO9 := HO.out
            rw [show j * 3 + i = (j + 1) * 3 by omega] at hO9
            have HO9 := hid hO9
            clear hO9
            go_wp2_with (fail)
            go_roundg m9
            case measure => omega
            case rel => exact ⟨j + 1, _, by omega, rfl, by go_num, HO9, hB⟩
          | succ m2 =>
            obtain ⟨v, hv⟩ : ∃ v, v = u3 := ⟨_, rfl⟩
            subst hv
            have hlti : i < 3 := by omega
            have i1 : (i : Int) < 3 := by omega
            have hcn : j * 3 + i < 9 := by omega
            rcases (show i = 0 ∨ i = 1 ∨ i = 2 by omega) with h | h | h
            · have ei : (i : Int) = 0 := by omega
              have HX : Hid (F (j * 3 + i) = one5) := by show F (j * 3 + i) = _; rw [HF.out, HK.out, h]; rfl
              clear h
              have hxa := ixa00
              go_wp2_with (at_builtin; refine wpList_append_lies _ rfl _ _ _ rfl (w.heap.size) 99 i0 _ 5 40 Try.underlying28 hi0 hu0 hu1 hu2 rfl (by omega) v (j * 3 + i) (csL (tab (j * 3 + i) F)) rfl (World.ownsRow.alloc (by have := HO.out; unfold Own5 at this; rw [tab_len] at this; exact this) _) ⟨wr.heap.size, 0, none⟩ 1 1 one5.cs rfl rfl (World.news_of_block (cs := one5.cs.toArray) (t := 99) (fr := (0, 0)) (heap_alloc_new _ _)) (by simp [D5.cs, Value.oneCell']) (by omega) (append_ok (by omega)).1 (append_ok (by omega)).2 (by simp; omega) (wr.heap.size + 1) (by simp) ?_; intro gg cap wb hownb hgrowb hatb hltb)
              go_roundg m2
              case measure => omega
              case rel =>
                have hzb := hgrowb.size
                simp only [World.size_alloc] at hzb
                have hvl := World.ownsRow.lt HO.out
                refine ⟨i + 1, _, by omega, rfl, by go_num, ?_, ?_⟩
                · show Own5 _ _ _ _ _
                  rw [show j * 3 + (i + 1) = (j * 3 + i) + 1 by omega, tab_succ, HX.out]
                  exact Own5.snoc (tab_len _ _) hownb
                · exact Below.grown (hB.alloc hBz _) hgrowb (by simp only [World.size_alloc]; omega) (fun q e => by have := (hvl _ e).1; omega)
            · have ei : (i : Int) = 1 := by omega
              have HX : Hid (F (j * 3 + i) = z5) := by show F (j * 3 + i) = _; rw [HF.out, HK.out, h]; rfl
              clear h
              have hxa := ixa01
              go_wp2_with (at_builtin; refine wpList_append_lies _ rfl _ _ _ rfl (w.heap.size) 99 i0 _ 5 40 Try.underlying28 hi0 hu0 hu1 hu2 rfl (by omega) v (j * 3 + i) (csL (tab (j * 3 + i) F)) rfl (World.ownsRow.alloc (by have := HO.out; unfold Own5 at this; rw [tab_len] at this; exact this) _) ⟨wr.heap.size, 0, none⟩ 1 1 z5.cs rfl rfl (World.news_of_block (cs := z5.cs.toArray) (t := 99) (fr := (0, 0)) (heap_alloc_new _ _)) (by simp [D5.cs, Value.oneCell']) (by omega) (append_ok (by omega)).1 (append_ok (by omega)).2 (by simp; omega) (wr.heap.size + 1) (by simp) ?_; intro gg cap wb hownb hgrowb hatb hltb)
              go_roundg m2
              case measure => omega
              case rel =>
                have hzb := hgrowb.size
                simp only [World.size_alloc] at hzb
                have hvl := World.ownsRow.lt HO.out
                refine ⟨i + 1, _, by omega, rfl, by go_num, ?_, ?_⟩
                · show Own5 _ _ _ _ _
                  rw [show j * 3 + (i + 1) = (j * 3 + i) + 1 by omega, tab_succ, HX.out]
                  exact Own5.snoc (tab_len _ _) hownb
                · exact Below.grown (hB.alloc hBz _) hgrowb (by simp only [World.size_alloc]; omega) (fun q e => by have := (hvl _ e).1; omega)
            · have ei : (i : Int) = 2 := by omega
              have HX : Hid (F (j * 3 + i) = z5) := by show F (j * 3 + i) = _; rw [HF.out, HK.out, h]; rfl
              clear h
              have hxa := ixa02
              go_wp2_with (at_builtin; refine wpList_append_lies _ rfl _ _ _ rfl (w.heap.size) 99 i0 _ 5 40 Try.underlying28 hi0 hu0 hu1 hu2 rfl (by omega) v (j * 3 + i) (csL (tab (j * 3 + i) F)) rfl (World.ownsRow.alloc (by have := HO.out; unfold Own5 at this; rw [tab_len] at this; exact this) _) ⟨wr.heap.size, 0, none⟩ 1 1 z5.cs rfl rfl (World.news_of_block (cs := z5.cs.toArray) (t := 99) (fr := (0, 0)) (heap_alloc_new _ _)) (by simp [D5.cs, Value.oneCell']) (by omega) (append_ok (by omega)).1 (append_ok (by omega)).2 (by simp; omega) (wr.heap.size + 1) (by simp) ?_; intro gg cap wb hownb hgrowb hatb hltb)
              go_roundg m2
              case measure => omega
              case rel =>
                have hzb := hgrowb.size
                simp only [World.size_alloc] at hzb
                have hvl := World.ownsRow.lt HO.out
                refine ⟨i + 1, _, by omega, rfl, by go_num, ?_, ?_⟩
                · show Own5 _ _ _ _ _
                  rw [show j * 3 + (i + 1) = (j * 3 + i) + 1 by omega, tab_succ, HX.out]
                  exact Own5.snoc (tab_len _ _) hownb
                · exact Below.grown (hB.alloc hBz _) hgrowb (by simp only [World.size_alloc]; omega) (fun q e => by have := (hvl _ e).1; omega)
      · have ej : (j : Int) = 1 := by omega
        have HK := hid h
        clear h
        have hxr := ixr1
        go_wp2_with (fail)
        clear hxr ej
        go_loopg [3, 13] 3 (fun q s3 s13 wr => ∃ (i : Nat) (v : Value), i + q = 3 ∧ s3 = v ∧ s13 = .int .i64 (i : Int) ∧ Hid (Own5 wr w.heap.size 99 v (tab (j * 3 + i) F)) ∧ Below w.heap.size w wr)
        case atStart => exact ⟨0, _, by omega, rfl, rfl, HO1.out _, HB1.out _⟩
        case round =>
          clear HO1 HB1 HO hB hBz
          obtain ⟨i, v, hi, rfl, rfl, HO, hB⟩ := hrel
          have hBz := hB.size
          cases gk with
          | zero =>
            have i9 : ¬ ((i : Int) < 3) := by omega
            have hO9 := HO.out
            rw [show j * 3 + i = (j + 1) * 3 by omega] at hO9
            have HO9 := hid hO9
            clear hO9
            go_wp2_with (fail)
            go_roundg m9
            case measure => omega
            case rel => exact ⟨j + 1, _, by omega, rfl, by go_num, HO9, hB⟩
          | succ m2 =>
            obtain ⟨v, hv⟩ : ∃ v, v = u3 := ⟨_, rfl⟩
            subst hv
            have hlti : i < 3 := by omega
            have i1 : (i : Int) < 3 := by omega
            have hcn : j * 3 + i < 9 := by omega
            rcases (show i = 0 ∨ i = 1 ∨ i = 2 by omega) with h | h | h
            · have ei : (i : Int) = 0 := by omega
              have HX : Hid (F (j * 3 + i) = z5) := by show F (j * 3 + i) = _; rw [HF.out, HK.out, h]; rfl
              clear h
              have hxa := ixa10
              go_wp2_with (at_builtin; refine wpList_append_lies _ rfl _ _ _ rfl (w.heap.size) 99 i0 _ 5 40 Try.underlying28 hi0 hu0 hu1 hu2 rfl (by omega) v (j * 3 + i) (csL (tab (j * 3 + i) F)) rfl (World.ownsRow.alloc (by have := HO.out; unfold Own5 at this; rw [tab_len] at this; exact this) _) ⟨wr.heap.size, 0, none⟩ 1 1 z5.cs rfl rfl (World.news_of_block (cs := z5.cs.toArray) (t := 99) (fr := (0, 0)) (heap_alloc_new _ _)) (by simp [D5.cs, Value.oneCell']) (by omega) (append_ok (by omega)).1 (append_ok (by omega)).2 (by simp; omega) (wr.heap.size + 1) (by simp) ?_; intro gg cap wb hownb hgrowb hatb hltb)
              go_roundg m2
              case measure => omega
              case rel =>
                have hzb := hgrowb.size
                simp only [World.size_alloc] at hzb
                have hvl := World.ownsRow.lt HO.out
                refine ⟨i + 1, _, by omega, rfl, by go_num, ?_, ?_⟩
                · show Own5 _ _ _ _ _
                  rw [show j * 3 + (i + 1) = (j * 3 + i) + 1 by omega, tab_succ, HX.out]
                  exact Own5.snoc (tab_len _ _) hownb
                · exact Below.grown (hB.alloc hBz _) hgrowb (by simp only [World.size_alloc]; omega) (fun q e => by have := (hvl _ e).1; omega)
            · have ei : (i : Int) = 1 := by omega
              have HX : Hid (F (j * 3 + i) = one5) := by show F (j * 3 + i) = _; rw [HF.out, HK.out, h]; rfl
              clear h
              have hxa := ixa11
              go_wp2_with (at_builtin; refine wpList_append_lies _ rfl _ _ _ rfl (w.heap.size) 99 i0 _ 5 40 Try.underlying28 hi0 hu0 hu1 hu2 rfl (by omega) v (j * 3 + i) (csL (tab (j * 3 + i) F)) rfl (World.ownsRow.alloc (by have := HO.out; unfold Own5 at this; rw [tab_len] at this; exact this) _) ⟨wr.heap.size, 0, none⟩ 1 1 one5.cs rfl rfl (World.news_of_block (cs := one5.cs.toArray) (t := 99) (fr := (0, 0)) (heap_alloc_new _ _)) (by simp [D5.cs, Value.oneCell']) (by omega) (append_ok (by omega)).1 (append_ok (by omega)).2 (by simp; omega) (wr.heap.size + 1) (by simp) ?_; intro gg cap wb hownb hgrowb hatb hltb)
              go_roundg m2
              case measure => omega
              case rel =>
                have hzb := hgrowb.size
                simp only [World.size_alloc] at hzb
                have hvl := World.ownsRow.lt HO.out
                refine ⟨i + 1, _, by omega, rfl, by go_num, ?_, ?_⟩
                · show Own5 _ _ _ _ _
                  rw [show j * 3 + (i + 1) = (j * 3 + i) + 1 by omega, tab_succ, HX.out]
                  exact Own5.snoc (tab_len _ _) hownb
                · exact Below.grown (hB.alloc hBz _) hgrowb (by simp only [World.size_alloc]; omega) (fun q e => by have := (hvl _ e).1; omega)
            · have ei : (i : Int) = 2 := by omega
              have HX : Hid (F (j * 3 + i) = z5) := by show F (j * 3 + i) = _; rw [HF.out, HK.out, h]; rfl
              clear h
              have hxa := ixa12
              go_wp2_with (at_builtin; refine wpList_append_lies _ rfl _ _ _ rfl (w.heap.size) 99 i0 _ 5 40 Try.underlying28 hi0 hu0 hu1 hu2 rfl (by omega) v (j * 3 + i) (csL (tab (j * 3 + i) F)) rfl (World.ownsRow.alloc (by have := HO.out; unfold Own5 at this; rw [tab_len] at this; exact this) _) ⟨wr.heap.size, 0, none⟩ 1 1 z5.cs rfl rfl (World.news_of_block (cs := z5.cs.toArray) (t := 99) (fr := (0, 0)) (heap_alloc_new _ _)) (by simp [D5.cs, Value.oneCell']) (by omega) (append_ok (by omega)).1 (append_ok (by omega)).2 (by simp; omega) (wr.heap.size + 1) (by simp) ?_; intro gg cap wb hownb hgrowb hatb hltb)
              go_roundg m2
              case measure => omega
              case rel =>
                have hzb := hgrowb.size
                simp only [World.size_alloc] at hzb
                have hvl := World.ownsRow.lt HO.out
                refine ⟨i + 1, _, by omega, rfl, by go_num, ?_, ?_⟩
                · show Own5 _ _ _ _ _
                  rw [show j * 3 + (i + 1) = (j * 3 + i) + 1 by omega, tab_succ, HX.out]
                  exact Own5.snoc (tab_len _ _) hownb
                · exact Below.grown (hB.alloc hBz _) hgrowb (by simp only [World.size_alloc]; omega) (fun q e => by have := (hvl _ e).1; omega)
      · have ej : (j : Int) = 2 := by omega
        have HK := hid h
        clear h
        have hxr := ixr2
        go_wp2_with (fail)
        clear hxr ej
        go_loopg [3, 13] 3 (fun q s3 s13 wr => ∃ (i : Nat) (v : Value), i + q = 3 ∧ s3 = v ∧ s13 = .int .i64 (i : Int) ∧ Hid (Own5 wr w.heap.size 99 v (tab (j * 3 + i) F)) ∧ Below w.heap.size w wr)
        case atStart => exact ⟨0, _, by omega, rfl, rfl, HO1.out _, HB1.out _⟩
        case round =>
          clear HO1 HB1 HO hB hBz
          obtain ⟨i, v, hi, rfl, rfl, HO, hB⟩ := hrel
          have hBz := hB.size
          cases gk with
          | zero =>
            have i9 : ¬ ((i : Int) < 3) := by omega
            have hO9 := HO.out
            rw [show j * 3 + i = (j + 1) * 3 by omega] at hO9
            have HO9 := hid hO9
            clear hO9
            go_wp2_with (fail)
            go_roundg m9
            case measure => omega
            case rel => exact ⟨j + 1, _, by omega, rfl, by go_num, HO9, hB⟩
          | succ m2 =>
            obtain ⟨v, hv⟩ : ∃ v, v = u3 := ⟨_, rfl⟩
            subst hv
            have hlti : i < 3 := by omega
            have i1 : (i : Int) < 3 := by omega
            have hcn : j * 3 + i < 9 := by omega
            rcases (show i = 0 ∨ i = 1 ∨ i = 2 by omega) with h | h | h
            · have ei : (i : Int) = 0 := by omega
              have HX : Hid (F (j * 3 + i) = z5) := by show F (j * 3 + i) = _; rw [HF.out, HK.out, h]; rfl
              clear h
              have hxa := ixa20
              go_wp2_with (at_builtin; refine wpList_append_lies _ rfl _ _ _ rfl (w.heap.size) 99 i0 _ 5 40 Try.underlying28 hi0 hu0 hu1 hu2 rfl (by omega) v (j * 3 + i) (csL (tab (j * 3 + i) F)) rfl (World.ownsRow.alloc (by have := HO.out; unfold Own5 at this; rw [tab_len] at this; exact this) _) ⟨wr.heap.size, 0, none⟩ 1 1 z5.cs rfl rfl (World.news_of_block (cs := z5.cs.toArray) (t := 99) (fr := (0, 0)) (heap_alloc_new _ _)) (by simp [D5.cs, Value.oneCell']) (by omega) (append_ok (by omega)).1 (append_ok (by omega)).2 (by simp; omega) (wr.heap.size + 1) (by simp) ?_; intro gg cap wb hownb hgrowb hatb hltb)
              go_roundg m2
              case measure => omega
              case rel =>
                have hzb := hgrowb.size
                simp only [World.size_alloc] at hzb
                have hvl := World.ownsRow.lt HO.out
                refine ⟨i + 1, _, by omega, rfl, by go_num, ?_, ?_⟩
                · show Own5 _ _ _ _ _
                  rw [show j * 3 + (i + 1) = (j * 3 + i) + 1 by omega, tab_succ, HX.out]
                  exact Own5.snoc (tab_len _ _) hownb
                · exact Below.grown (hB.alloc hBz _) hgrowb (by simp only [World.size_alloc]; omega) (fun q e => by have := (hvl _ e).1; omega)
            · have ei : (i : Int) = 1 := by omega
              have HX : Hid (F (j * 3 + i) = z5) := by show F (j * 3 + i) = _; rw [HF.out, HK.out, h]; rfl
              clear h
              have hxa := ixa21
              go_wp2_with (at_builtin; refine wpList_append_lies _ rfl _ _ _ rfl (w.heap.size) 99 i0 _ 5 40 Try.underlying28 hi0 hu0 hu1 hu2 rfl (by omega) v (j * 3 + i) (csL (tab (j * 3 + i) F)) rfl (World.ownsRow.alloc (by have := HO.out; unfold Own5 at this; rw [tab_len] at this; exact this) _) ⟨wr.heap.size, 0, none⟩ 1 1 z5.cs rfl rfl (World.news_of_block (cs := z5.cs.toArray) (t := 99) (fr := (0, 0)) (heap_alloc_new _ _)) (by simp [D5.cs, Value.oneCell']) (by omega) (append_ok (by omega)).1 (append_ok (by omega)).2 (by simp; omega) (wr.heap.size + 1) (by simp) ?_; intro gg cap wb hownb hgrowb hatb hltb)
              go_roundg m2
              case measure => omega
              case rel =>
                have hzb := hgrowb.size
                simp only [World.size_alloc] at hzb
                have hvl := World.ownsRow.lt HO.out
                refine ⟨i + 1, _, by omega, rfl, by go_num, ?_, ?_⟩
                · show Own5 _ _ _ _ _
                  rw [show j * 3 + (i + 1) = (j * 3 + i) + 1 by omega, tab_succ, HX.out]
                  exact Own5.snoc (tab_len _ _) hownb
                · exact Below.grown (hB.alloc hBz _) hgrowb (by simp only [World.size_alloc]; omega) (fun q e => by have := (hvl _ e).1; omega)
            · have ei : (i : Int) = 2 := by omega
              have HX : Hid (F (j * 3 + i) = one5) := by show F (j * 3 + i) = _; rw [HF.out, HK.out, h]; rfl
              clear h
              have hxa := ixa22
              go_wp2_with (at_builtin; refine wpList_append_lies _ rfl _ _ _ rfl (w.heap.size) 99 i0 _ 5 40 Try.underlying28 hi0 hu0 hu1 hu2 rfl (by omega) v (j * 3 + i) (csL (tab (j * 3 + i) F)) rfl (World.ownsRow.alloc (by have := HO.out; unfold Own5 at this; rw [tab_len] at this; exact this) _) ⟨wr.heap.size, 0, none⟩ 1 1 one5.cs rfl rfl (World.news_of_block (cs := one5.cs.toArray) (t := 99) (fr := (0, 0)) (heap_alloc_new _ _)) (by simp [D5.cs, Value.oneCell']) (by omega) (append_ok (by omega)).1 (append_ok (by omega)).2 (by simp; omega) (wr.heap.size + 1) (by simp) ?_; intro gg cap wb hownb hgrowb hatb hltb)
              go_roundg m2
              case measure => omega
              case rel =>
                have hzb := hgrowb.size
                simp only [World.size_alloc] at hzb
                have hvl := World.ownsRow.lt HO.out
                refine ⟨i + 1, _, by omega, rfl, by go_num, ?_, ?_⟩
                · show Own5 _ _ _ _ _
                  rw [show j * 3 + (i + 1) = (j * 3 + i) + 1 by omega, tab_succ, HX.out]
                  exact Own5.snoc (tab_len _ _) hownb
                · exact Below.grown (hB.alloc hBz _) hgrowb (by simp only [World.size_alloc]; omega) (fun q e => by have := (hvl _ e).1; omega)


end Go.Proofs.Ytofclfgaekjonaa
namespace Go.Proofs.Ytofclfgaekjonaa
open Go.RowKit RM
set_option linter.unusedVariables false
set_option linter.unusedSimpArgs false
theorem vr_turn_4 {a b c d : Int} (h : vr a b c d = true) : vr (-a) (-b) (-c) (-d) = true := by
  rw [vr_iff] at *; omega
theorem mc_4 (a b c d : Int) (w : World) (hx : vr a b c d = true) :
    Calls Try.prog 179 #[rg a b c d, rg (-1) 0 0 0] w fun e w' => e = .returned (rg (-a) (-b) (-c) (-d)) ∧ Below w.heap.size w w' := by
  have h := mc a b c d (-1) 0 0 0 w hx (by decide)
  have e0 : m0 a b c d (-1) 0 0 0 = -a := by simp [m0]
  have e1 : m1 a b c d (-1) 0 0 0 = -b := by simp [m1]
  have e2 : m2 a b c d (-1) 0 0 0 = -c := by simp [m2]
  have e3 : m3 a b c d (-1) 0 0 0 = -d := by simp [m3]
  rw [e0, e1, e2, e3] at h
  exact h

set_option maxRecDepth 100000 in
set_option maxHeartbeats 2000000 in
theorem omega_i_4 (a b c d k : Int) (w : World) (t1 : -7 ≤ k.tmod 8) (t2 : k.tmod 8 ≤ 7) (t3 : (k.tmod 8 + 8) % 8 = 4) (t4 : (k.tmod 8 + 8).tmod 8 = 4) (g1 : -1000 ≤ k) (g2 : k ≤ 1000) (hx : vr a b c d = true) :
    Calls Try.prog 137 #[rg a b c d, .int .i64 k] w fun e w' => e = .returned (rt (-a) (-b) (-c) (-d) true) ∧ Below w.heap.size w w' := by
  have HX := hid hx
  clear hx
  go_enter Try.func137, Try.ntmps137
  go_wp2_with (first | (go_at_call 172; ((with_reducible refine (iv_t _ _ _ _ _ HX.out).mono ?_); rintro e w1 ⟨rfl, hb1⟩; obtain ⟨hc1, hf1, _⟩ := bcell hb1; have hz1 := hb1.size; (try simp at hz1); (try have hx10 : w.heap.size < w1.heap.size := (by omega)); (try have hx11 : w.heap.size + 1 < w1.heap.size := (by omega)); (try have hx12 : w.heap.size + 1 + 1 < w1.heap.size := (by omega)); (try have hx13 : w.heap.size + 1 + 1 + 1 < w1.heap.size := (by omega)))))
  go_region_with (first
   | (go_at_call 180; ((with_reducible refine (co _ _ _ _ _).mono ?_); rintro e w3 ⟨rfl, hb3⟩; ((first | (have hq3 := bcell_drew hb3) | (have hq3 := bcell hb3))); obtain ⟨hc3, hf3, hz3⟩ := hq3; (try simp at hz3); (try have hx30 : w.heap.size < w3.heap.size := (by omega)); (try have hx31 : w.heap.size + 1 < w3.heap.size := (by omega)); (try have ho3 : w1.heap.size < w3.heap.size := (by omega))))
   | (go_at_call 179; ((with_reducible refine (mc_4 _ _ _ _ _ HX.out).mono ?_); rintro e w4 ⟨rfl, hb4⟩; ((first | (have hq4 := bcell_drew hb4) | (have hq4 := bcell hb4))); obtain ⟨hc4, hf4, hz4⟩ := hq4; (try simp at hz4); (try have hx40 : w.heap.size < w4.heap.size := (by omega)); (try have hx41 : w.heap.size + 1 < w4.heap.size := (by omega)); (try have ho4 : w1.heap.size < w4.heap.size := (by omega))))
   | (go_at_call 178; ((with_reducible refine (ro_t _ _ _ _ _ (vr_turn_4 HX.out)).mono ?_); rintro e w5 ⟨rfl, hb5⟩; ((first | (have hq5 := bcell_drew hb5) | (have hq5 := bcell hb5))); obtain ⟨hc5, hf5, hz5⟩ := hq5; (try simp at hz5); (try have hx50 : w.heap.size < w5.heap.size := (by omega)); (try have hx51 : w.heap.size + 1 < w5.heap.size := (by omega)); (try have ho5 : w1.heap.size < w5.heap.size := (by omega)))))
  all_goals (go_wp2; refine bodyPost_ret (v := rt (-a) (-b) (-c) (-d) true) (by simp [results, Try.results137, go_sem, *]) rfl ⟨rfl, ?_⟩)
  all_goals (repeat' (first | (with_reducible exact Below.refl _ _) | (with_reducible refine Below.alloc ?_ ?_ _) | (with_reducible refine Below.drew ?_) | (with_reducible refine Below.setCell ?_ ?_ _) | (with_reducible refine chain ?_ (by assumption) ?_) | omega | (simp; done) | (simp; omega)))
theorem vr_turn_5 {a b c d : Int} (h : vr a b c d = true) : vr d (-a) (-b) (-c) = true := by
  rw [vr_iff] at *; omega
theorem mc_5 (a b c d : Int) (w : World) (hx : vr a b c d = true) :
    Calls Try.prog 179 #[rg a b c d, rg 0 (-1) 0 0] w fun e w' => e = .returned (rg d (-a) (-b) (-c)) ∧ Below w.heap.size w w' := by
  have h := mc a b c d 0 (-1) 0 0 w hx (by decide)
  have e0 : m0 a b c d 0 (-1) 0 0 = d := by simp [m0]
  have e1 : m1 a b c d 0 (-1) 0 0 = -a := by simp [m1]
  have e2 : m2 a b c d 0 (-1) 0 0 = -b := by simp [m2]
  have e3 : m3 a b c d 0 (-1) 0 0 = -c := by simp [m3]
  rw [e0, e1, e2, e3] at h
  exact h

set_option maxRecDepth 100000 in
set_option maxHeartbeats 2000000 in
theorem omega_i_5 (a b c d k : Int) (w : World) (t1 : -7 ≤ k.tmod 8) (t2 : k.tmod 8 ≤ 7) (t3 : (k.tmod 8 + 8) % 8 = 5) (t4 : (k.tmod 8 + 8).tmod 8 = 5) (g1 : -1000 ≤ k) (g2 : k ≤ 1000) (hx : vr a b c d = true) :
    Calls Try.prog 137 #[rg a b c d, .int .i64 k] w fun e w' => e = .returned (rt d (-a) (-b) (-c) true) ∧ Below w.heap.size w w' := by
  have HX := hid hx
  clear hx
  go_enter Try.func137, Try.ntmps137
  go_wp2_with (first | (go_at_call 172; ((with_reducible refine (iv_t _ _ _ _ _ HX.out).mono ?_); rintro e w1 ⟨rfl, hb1⟩; obtain ⟨hc1, hf1, _⟩ := bcell hb1; have hz1 := hb1.size; (try simp at hz1); (try have hx10 : w.heap.size < w1.heap.size := (by omega)); (try have hx11 : w.heap.size + 1 < w1.heap.size := (by omega)); (try have hx12 : w.heap.size + 1 + 1 < w1.heap.size := (by omega)); (try have hx13 : w.heap.size + 1 + 1 + 1 < w1.heap.size := (by omega)))))
  go_region_with (first
   | (go_at_call 180; ((with_reducible refine (co _ _ _ _ _).mono ?_); rintro e w3 ⟨rfl, hb3⟩; ((first | (have hq3 := bcell_drew hb3) | (have hq3 := bcell hb3))); obtain ⟨hc3, hf3, hz3⟩ := hq3; (try simp at hz3); (try have hx30 : w.heap.size < w3.heap.size := (by omega)); (try have hx31 : w.heap.size + 1 < w3.heap.size := (by omega)); (try have ho3 : w1.heap.size < w3.heap.size := (by omega))))
   | (go_at_call 179; ((with_reducible refine (mc_5 _ _ _ _ _ HX.out).mono ?_); rintro e w4 ⟨rfl, hb4⟩; ((first | (have hq4 := bcell_drew hb4) | (have hq4 := bcell hb4))); obtain ⟨hc4, hf4, hz4⟩ := hq4; (try simp at hz4); (try have hx40 : w.heap.size < w4.heap.size := (by omega)); (try have hx41 : w.heap.size + 1 < w4.heap.size := (by omega)); (try have ho4 : w1.heap.size < w4.heap.size := (by omega))))
   | (go_at_call 178; ((with_reducible refine (ro_t _ _ _ _ _ (vr_turn_5 HX.out)).mono ?_); rintro e w5 ⟨rfl, hb5⟩; ((first | (have hq5 := bcell_drew hb5) | (have hq5 := bcell hb5))); obtain ⟨hc5, hf5, hz5⟩ := hq5; (try simp at hz5); (try have hx50 : w.heap.size < w5.heap.size := (by omega)); (try have hx51 : w.heap.size + 1 < w5.heap.size := (by omega)); (try have ho5 : w1.heap.size < w5.heap.size := (by omega)))))
  all_goals (go_wp2; refine bodyPost_ret (v := rt d (-a) (-b) (-c) true) (by simp [results, Try.results137, go_sem, *]) rfl ⟨rfl, ?_⟩)
  all_goals (repeat' (first | (with_reducible exact Below.refl _ _) | (with_reducible refine Below.alloc ?_ ?_ _) | (with_reducible refine Below.drew ?_) | (with_reducible refine Below.setCell ?_ ?_ _) | (with_reducible refine chain ?_ (by assumption) ?_) | omega | (simp; done) | (simp; omega)))
end Go.Proofs.Ytofclfgaekjonaa
