/- Bsv -/
import Derived.Test.YtofclfgaekjonaaZq18
import Derived.Test.YtofclfgaekjonaaZq16
import Derived.BigQuiet
import Derived.Deep.QuietTactic
namespace Go.Proofs.Ytofclfgaekjonaa
open Go.RowKit RM
set_option linter.unusedVariables false
set_option linter.unusedSimpArgs false
attribute [local irreducible] World.setCell

theorem if5 {α : Type} {a b c d e : Prop} [Decidable a] [Decidable b] [Decidable c] [Decidable d] [Decidable e] (x y : α) : (if a then (if b then (if c then (if d then (if e then x else y) else y) else y) else y) else y) = if a ∧ b ∧ c ∧ d ∧ e then x else y := by
  by_cases ha : a <;> by_cases hb : b <;> by_cases hc : c <;> by_cases hd : d <;> by_cases he : e <;> simp [ha, hb, hc, hd, he]
theorem sm_t {A B : Option Addr} {n cp cp' : Nat} {xs ys : List D5} {w : World} {e : Bool} (hA : Rd w A xs) (hB : Rd w B ys) (hn : xs.length = n) (hm : ys.length = n) (hb : n ≤ 1048576) (he : eqL xs ys = e) :
    Calls Try.prog 127 #[bv A n cp, bv B n cp'] w fun ee w' => ee = .returned (.bool e) ∧ Below w.heap.size w w' := by
  rw [← he]; exact sm_s hA hB hn hm hb
set_option maxRecDepth 100000 in
set_option maxHeartbeats 16000000 in
theorem lv_s9 {g0 cp : Nat} {xs : List D5} {w : World} (hA : Rd w (some ⟨g0, 0, none⟩) xs) (hn : xs.length = 9) (hgl : g0 < w.heap.size) :
    Calls Try.prog 70 #[bv (some ⟨g0, 0, none⟩) 9 cp] w fun ee w' => ee = .returned (.bool (okBl 9 xs)) ∧ Below w.heap.size w w' := by
  have HA := hid hA
  have HN := hid hn
  clear hA hn
  go_enter Try.func70, Try.ntmps70
  go_wp2_with (fail)
  go_loopg [15] 9 (fun k s1 wr => ∃ j : Nat, j + k = 9 ∧ s1 = .int .i64 (j : Int) ∧ Hid (allR (xs.take j) = true) ∧ Hid (Bx wr w.heap.size 51 #[.slice (some ⟨g0, 0, none⟩) 9 cp]) ∧ Below w.heap.size w wr)
  case atStart => exact ⟨0, by omega, rfl, rfl, (by show Bx _ _ _ _; exact Bx.new rfl), by (repeat' (first | (with_reducible exact Below.refl _ _) | (with_reducible assumption) | (with_reducible refine Below.alloc ?_ ?_ _) | (with_reducible refine Below.drew ?_) | (with_reducible refine below_drewN ?_ _) | (with_reducible refine Below.setCell ?_ ?_ _) | (with_reducible refine chain ?_ (by assumption) ?_) | omega | (simp; done) | (simp; omega)))⟩
  case round =>
    obtain ⟨j, hj, rfl, HJ, XB, hB⟩ := hrel
    have hBz := hB.size
    have xb := XB.out.c 0 rfl
    have xbl := XB.out.lt
    cases gk with
    | zero =>
      have hR : allR xs = true := by
        have h9 := HJ.out
        rwa [List.take_of_length_le (by rw [HN.out]; omega)] at h9
      have j9 : ¬ ((j : Int) < 9) := by omega
      have HR := hid hR
      clear hR HJ
      go_upto_region 10 with (fail)
      obtain ⟨gc, hgc⟩ : ∃ gc, gc = wr.heap.size := ⟨_, rfl⟩
      obtain ⟨W9, hW9⟩ : ∃ W9 : World, W9 = wr.alloc (.cells #[.bool false] 116) := ⟨_, rfl⟩
      have XF9 : Bx W9 gc 116 #[.bool false] := by rw [hW9]; exact Bx.new hgc
      have XB9 : Bx W9 w.heap.size 51 #[.slice (some ⟨g0, 0, none⟩) 9 cp] := by rw [hW9]; exact XB.out.alloc _
      have hB9 : Below w.heap.size w W9 := by rw [hW9]; exact hB.alloc hBz _
      have hz9 : gc < W9.heap.size := by rw [hW9]; simp; omega
      have HA9 := hid (HA.out.mono hB9)
      have hgw : w.heap.size < gc := by omega
      rw [← hgc, ← hW9]
      clear hW9 hgc XB xb xbl hB
      have xb := XB9.c 0 rfl
      have xb2 := xb
      go_cut [6] (fun s6 wx => ∃ (gx : Nat) (z : Bool) (zs : List D5) (Bo : Option Addr) (cq : Nat), s6 = .pointer (some ⟨gx, 0, none⟩) ∧ Hid (Sofar z zs 9 (mmF 3 3 xs (tab 9 (tpF xs))) (mmG 3 3 xs (tab 9 (tpF xs)))) ∧ Hid (gc < gx ∧ gx ≠ gc ∧ ∀ a, Bo = some a → gc < a.block ∧ a.block ≠ gx) ∧ Hid (Bx wx w.heap.size 51 #[.slice (some ⟨g0, 0, none⟩) 9 cp]) ∧ Hid (Bx wx gc 116 #[.bool z]) ∧ Hid (Bx wx gx 51 #[.slice Bo 9 cq]) ∧ Hid (Rd wx Bo zs) ∧ Hid (Rd wx (some ⟨g0, 0, none⟩) xs) ∧ Hid (Below w.heap.size w wx))
      case first =>
        have yxb : W9.drew.cell? ⟨w.heap.size, 0, none⟩ = some (.slice (some ⟨g0, 0, none⟩) 9 cp) := xb
        have yxb2 : W9.drew.cell? ⟨w.heap.size, 0, none⟩ = some (.slice (some ⟨g0, 0, none⟩) 9 cp) := xb2
        refine wp_region_x (fun w' => w'.cell? ⟨w.heap.size, 0, none⟩ = some (.slice (some ⟨g0, 0, none⟩) 9 cp) ∧ w'.cell? ⟨w.heap.size, 0, none⟩ = some (.slice (some ⟨g0, 0, none⟩) 9 cp)) 1000 (by kernel_rfl) ⟨yxb, yxb2⟩ (fun hS0 => ?_)
        refine wpAnyX_take (i := 0) (oi := _) (v := ?_) rfl (by kernel_rfl) (by kernel_rfl) (by kernel_rfl) (by kernel_rfl) (fun _ _ _ h => h) (Or.inl ⟨by rfl, ?_⟩) hS0 ?_
        rotate_left 1
        · (intro w hSw; (try dsimp only at hSw); go_simp; (try with_reducible rfl))
        try simp only [Act.put, List.setIfInBounds_toArray, List.set_cons_zero, List.set_cons_succ]
        refine wpAnyX_take (i := 1) (oi := _) (v := ?_) rfl (by kernel_rfl) (by kernel_rfl) (by kernel_rfl) (by kernel_rfl) (fun _ _ _ h => h) (Or.inl ⟨by rfl, ?_⟩) hS0 ?_
        rotate_left 1
        · (intro w hSw; (try dsimp only at hSw); go_simp; (try with_reducible rfl))
        try simp only [Act.put, List.setIfInBounds_toArray, List.set_cons_zero, List.set_cons_succ]
        refine wpAnyX_take (i := 2) (oi := _) (v := ?_) rfl (by kernel_rfl) (by kernel_rfl) (by kernel_rfl) (by kernel_rfl) (fun _ _ _ h => h) (Or.inl ⟨by rfl, ?_⟩) hS0 ?_
        rotate_left 1
        · (intro w hSw; (try dsimp only at hSw); go_simp; (try with_reducible rfl))
        try simp only [Act.put, List.setIfInBounds_toArray, List.set_cons_zero, List.set_cons_succ]
        refine wpAnyX_two (i := 3) (j := 5) (oi := _) (oj := _) rfl rfl (by kernel_rfl) (fun K hK => ?_) (fun K hK => ?_)
        · go_simp
          refine (ltr (xs := xs) ?_ HN.out).mono ?_
          · exact HA9.out.mono (by (repeat' (first | (with_reducible exact Below.refl _ _) | (with_reducible assumption) | (with_reducible refine Below.alloc ?_ ?_ _) | (with_reducible refine Below.drew ?_) | (with_reducible refine below_drewN ?_ _) | (with_reducible refine Below.setCell ?_ ?_ _) | (with_reducible refine chain ?_ (by assumption) ?_) | omega | (simp; done) | (simp; omega))))
          rintro ee wt ⟨Bt, ct, rfl, hRt, hBt, hbt⟩
          have hzt := hbt.size
          (try simp only [World.size_drew, World.size_alloc] at hzt)
          obtain ⟨h0, o0, rfl, -⟩ := hRt 0 (tpF xs 0) (tab_get (by decide))
          have hh0 := hBt _ rfl
          (try simp only [World.size_drew, World.size_alloc] at hh0)
          refine hK.out _ _ (fun _ => ?_) (fun hS1 => ?_)
          · exact ⟨kc hbt hS0.1, kc hbt hS0.2⟩
          clear hK K
          have hS1 := hS1 (by decide)
          try simp only [Act.put, List.setIfInBounds_toArray, List.set_cons_zero, List.set_cons_succ]
          refine wpAnyX_two (i := 4) (j := 5) (oi := _) (oj := _) rfl rfl (by kernel_rfl) (fun K hK => ?_) (fun K hK => ?_)
          · go_simp
            refine (blm (gc := gc) (xs := xs) (ys := tab 9 (tpF xs)) ?_ ?_ HN.out (tab_len _ _) (allR_B HR.out) (tr_ok HN.out (allR_B HR.out)) ?_ (by omega) (by omega)).mono ?_
            · exact HA9.out.mono (by (repeat' (first | (with_reducible exact Below.refl _ _) | (with_reducible assumption) | (with_reducible refine Below.alloc ?_ ?_ _) | (with_reducible refine Below.drew ?_) | (with_reducible refine below_drewN ?_ _) | (with_reducible refine Below.setCell ?_ ?_ _) | (with_reducible refine chain ?_ (by assumption) ?_) | omega | (simp; done) | (simp; omega))))
            · exact hRt.mono (by (repeat' (first | (with_reducible exact Below.refl _ _) | (with_reducible assumption) | (with_reducible refine Below.alloc ?_ ?_ _) | (with_reducible refine Below.drew ?_) | (with_reducible refine below_drewN ?_ _) | (with_reducible refine Below.setCell ?_ ?_ _) | (with_reducible refine chain ?_ (by assumption) ?_) | omega | (simp; done) | (simp; omega))))
            · exact (Bx.mono (Bx.drew XF9) hbt)
            rintro ee wm ⟨z, zs, Bo, cq, rfl, hS, hRd, hBa, hbm⟩
            have hzm := bad_size hbm
            have hBl : ∀ a, Bo = some a → a.block < wm.heap.size := by
              intro a ha
              subst ha
              obtain ⟨x9, hx9⟩ : ∃ x, zs[0]? = some x := ⟨_, List.getElem?_eq_getElem (by rw [hS.1]; decide)⟩
              obtain ⟨g9, o9, e9, hc9⟩ := hRd 0 x9 hx9
              obtain rfl := Option.some.inj e9
              exact hc9.lt
            (try simp only [World.size_drew, World.size_alloc] at hzm hBa)
            have XFm := Bx.bad (Bx.mono (Bx.drew XF9) hbt) hbm
            refine hK.out _ _ (fun _ => ?_) (fun hS2 => ?_)
            · exact ⟨kbad hbm (by omega) hS1.1, kbad hbm (by omega) hS1.2⟩
            clear hK K
            have hS2 := hS2 (by decide)
            try simp only [Act.put, List.setIfInBounds_toArray, List.set_cons_zero, List.set_cons_succ]
            refine wpAnyX_one (i := 5) (o := _) rfl (by kernel_rfl) (fun K hK => ?_)
            go_simp
            refine hK.out _ _ (fun _ => ?_) (fun hS3 => ?_)
            · first | exact ⟨kal hS2.1, kal hS2.2⟩ | exact ⟨kald hS2.1, kald hS2.2⟩
            clear hK K
            have hS3 := hS3 (by decide)
            try simp only [Act.put, List.setIfInBounds_toArray, List.set_cons_zero, List.set_cons_succ]
            refine wpAnyX_one (i := 6) (o := _) rfl (by kernel_rfl) (fun K hK => ?_)
            go_simp
            refine hK.out _ _ (fun _ => ?_) (fun hS4 => ?_)
            · first | exact ⟨kst1 (by omega) hS3.1, kst1 (by omega) hS3.2⟩ | exact ⟨kre (by omega) hS3.1, kre (by omega) hS3.2⟩ | exact ⟨kal hS2.1, kal hS2.2⟩ | exact hS3
            clear hK K
            have hS4 := hS4 (by decide)
            try simp only [Act.put, List.setIfInBounds_toArray, List.set_cons_zero, List.set_cons_succ]
            refine wpAnyX_done (by kernel_rfl) ?_ _
            have hzz : True := trivial
            go_wp2_with (fail)
            go_meet
            refine ⟨_, z, zs, Bo, cq, rfl, hS, ?_, ?_, ?_, ?_, ?_, ?_, ?_⟩
            · show _ ∧ _; refine ⟨?_, ?_, ?_⟩ <;> first | omega | (intro a ha; have h9 := hBa a ha; have h8 := hBl a ha; omega)
            · show Bx _ _ _ _
              first | exact Bx.far (Bx.alloc (Bx.badly (Bx.mono (Bx.drew XB9) hbt) hbm (by omega)) _) (by omega) | exact (Bx.alloc (Bx.badly (Bx.mono (Bx.drew XB9) hbt) hbm (by omega)) _)
            · show Bx _ _ _ _
              first | exact Bx.far (Bx.alloc XFm _) (by omega) | exact (Bx.alloc XFm _)
            · show Bx _ _ _ _
              first | exact Bx.set (i := 0) (u := .slice Bo 9 cq) XR rfl | exact Bx.new (by first | rfl | (simp; done)) | exact Bx.set (i := 0) (u := .slice Bo 9 cq) (Bx.new (by first | rfl | (simp; done))) rfl
            · show Rd _ _ _
              (repeat' (first | exact hRd | refine Rd.far ?_ (fun a ha => by have h9 := hBa a ha; dsimp only; omega) _ | refine Rd.mono hRd (by (repeat' (first | (with_reducible exact Below.refl _ _) | (with_reducible assumption) | (with_reducible refine Below.alloc ?_ ?_ _) | (with_reducible refine Below.drew ?_) | (with_reducible refine below_drewN ?_ _) | (with_reducible refine Below.setCell ?_ ?_ _) | (with_reducible refine chain ?_ (by assumption) ?_) | omega | (simp; done) | (simp; omega))))))
            · show Rd _ _ _
              have hgm : wm.heap[g0]? = W9.heap[g0]? := (hbm.block g0 (by (try simp only [World.size_alloc, World.size_drew]); omega)).trans ((Below.heap_setCell _ _ _ _ (by show g0 ≠ gc; omega)).trans (hbt.block g0 (by (try simp only [World.size_alloc, World.size_drew]); omega)))
              have hAm : Rd wm (some ⟨g0, 0, none⟩) xs := HA9.out.at_ (fun a ha => by obtain rfl := Option.some.inj ha; exact hgm)
              (repeat' (first | exact hAm | refine Rd.far ?_ (fun a ha => by obtain rfl := Option.some.inj ha; dsimp only; omega) _ | refine Rd.mono hAm (by (repeat' (first | (with_reducible exact Below.refl _ _) | (with_reducible assumption) | (with_reducible refine Below.alloc ?_ ?_ _) | (with_reducible refine Below.drew ?_) | (with_reducible refine below_drewN ?_ _) | (with_reducible refine Below.setCell ?_ ?_ _) | (with_reducible refine chain ?_ (by assumption) ?_) | omega | (simp; done) | (simp; omega))))))
            · show Below _ _ _
              have hBt2 : Below w.heap.size w wt := by (repeat' (first | (with_reducible exact Below.refl _ _) | (with_reducible assumption) | (with_reducible refine Below.alloc ?_ ?_ _) | (with_reducible refine Below.drew ?_) | (with_reducible refine below_drewN ?_ _) | (with_reducible refine Below.setCell ?_ ?_ _) | (with_reducible refine chain ?_ (by assumption) ?_) | omega | (simp; done) | (simp; omega)))
              have hBm := bad_below hBt2 hbm (by omega)
              clear hBt2
              (repeat' (first | (with_reducible exact Below.refl _ _) | (with_reducible assumption) | (with_reducible refine Below.alloc ?_ ?_ _) | (with_reducible refine Below.drew ?_) | (with_reducible refine below_drewN ?_ _) | (with_reducible refine Below.setCell ?_ ?_ _) | (with_reducible refine chain ?_ (by assumption) ?_) | omega | (simp; done) | (simp; omega)))
          · go_simp
            refine hK.out _ _ (fun _ => ?_) (fun hS2 => ?_)
            · first | exact ⟨kal hS1.1, kal hS1.2⟩ | exact ⟨kald hS1.1, kald hS1.2⟩
            clear hK K
            have hS2 := hS2 (by decide)
            try simp only [Act.put, List.setIfInBounds_toArray, List.set_cons_zero, List.set_cons_succ]
            refine wpAnyX_one (i := 4) (o := _) rfl (by kernel_rfl) (fun K hK => ?_)
            go_simp
            refine (blm (gc := gc) (xs := xs) (ys := tab 9 (tpF xs)) ?_ ?_ HN.out (tab_len _ _) (allR_B HR.out) (tr_ok HN.out (allR_B HR.out)) ?_ (by omega) (by omega)).mono ?_
            · exact HA9.out.mono (by (repeat' (first | (with_reducible exact Below.refl _ _) | (with_reducible assumption) | (with_reducible refine Below.alloc ?_ ?_ _) | (with_reducible refine Below.drew ?_) | (with_reducible refine below_drewN ?_ _) | (with_reducible refine Below.setCell ?_ ?_ _) | (with_reducible refine chain ?_ (by assumption) ?_) | omega | (simp; done) | (simp; omega))))
            · exact hRt.mono (by (repeat' (first | (with_reducible exact Below.refl _ _) | (with_reducible assumption) | (with_reducible refine Below.alloc ?_ ?_ _) | (with_reducible refine Below.drew ?_) | (with_reducible refine below_drewN ?_ _) | (with_reducible refine Below.setCell ?_ ?_ _) | (with_reducible refine chain ?_ (by assumption) ?_) | omega | (simp; done) | (simp; omega))))
            · exact (Bx.alloc (Bx.mono (Bx.drew XF9) hbt) _)
            rintro ee wm ⟨z, zs, Bo, cq, rfl, hS, hRd, hBa, hbm⟩
            have hzm := bad_size hbm
            have hBl : ∀ a, Bo = some a → a.block < wm.heap.size := by
              intro a ha
              subst ha
              obtain ⟨x9, hx9⟩ : ∃ x, zs[0]? = some x := ⟨_, List.getElem?_eq_getElem (by rw [hS.1]; decide)⟩
              obtain ⟨g9, o9, e9, hc9⟩ := hRd 0 x9 hx9
              obtain rfl := Option.some.inj e9
              exact hc9.lt
            (try simp only [World.size_drew, World.size_alloc] at hzm hBa)
            have XFm := Bx.bad (Bx.alloc (Bx.mono (Bx.drew XF9) hbt) _) hbm
            refine hK.out _ _ (fun _ => ?_) (fun hS3 => ?_)
            · exact ⟨kbad hbm (by omega) hS2.1, kbad hbm (by omega) hS2.2⟩
            clear hK K
            have hS3 := hS3 (by decide)
            try simp only [Act.put, List.setIfInBounds_toArray, List.set_cons_zero, List.set_cons_succ]
            refine wpAnyX_one (i := 6) (o := _) rfl (by kernel_rfl) (fun K hK => ?_)
            have XR : Bx _ (wt.heap.size) 51 #[.slice none 0 0] := (Bx.badly (Bx.new (t := 51) (cs := #[.slice none 0 0]) (by first | rfl | (simp; done))) hbm (by omega))
            have xr0 := XR.c 0 rfl
            have xrf := XR.f
            have xrl := XR.lt
            go_simp
            refine hK.out _ _ (fun _ => ?_) (fun hS4 => ?_)
            · exact ⟨kst1 (by omega) hS3.1, kst1 (by omega) hS3.2⟩
            clear hK K
            have hS4 := hS4 (by decide)
            try simp only [Act.put, List.setIfInBounds_toArray, List.set_cons_zero, List.set_cons_succ]
            refine wpAnyX_done (by kernel_rfl) ?_ _
            have hzz : True := trivial
            go_wp2_with (fail)
            go_meet
            refine ⟨_, z, zs, Bo, cq, rfl, hS, ?_, ?_, ?_, ?_, ?_, ?_, ?_⟩
            · show _ ∧ _; refine ⟨?_, ?_, ?_⟩ <;> first | omega | (intro a ha; have h9 := hBa a ha; have h8 := hBl a ha; omega)
            · show Bx _ _ _ _
              first | exact Bx.far (Bx.badly (Bx.alloc (Bx.mono (Bx.drew XB9) hbt) _) hbm (by omega)) (by omega) | exact (Bx.badly (Bx.alloc (Bx.mono (Bx.drew XB9) hbt) _) hbm (by omega))
            · show Bx _ _ _ _
              first | exact Bx.far XFm (by omega) | exact XFm
            · show Bx _ _ _ _
              first | exact Bx.set (i := 0) (u := .slice Bo 9 cq) XR rfl | exact Bx.new (by first | rfl | (simp; done)) | exact Bx.set (i := 0) (u := .slice Bo 9 cq) (Bx.new (by first | rfl | (simp; done))) rfl
            · show Rd _ _ _
              (repeat' (first | exact hRd | refine Rd.far ?_ (fun a ha => by have h9 := hBa a ha; dsimp only; omega) _ | refine Rd.mono hRd (by (repeat' (first | (with_reducible exact Below.refl _ _) | (with_reducible assumption) | (with_reducible refine Below.alloc ?_ ?_ _) | (with_reducible refine Below.drew ?_) | (with_reducible refine below_drewN ?_ _) | (with_reducible refine Below.setCell ?_ ?_ _) | (with_reducible refine chain ?_ (by assumption) ?_) | omega | (simp; done) | (simp; omega))))))
            · show Rd _ _ _
              have hgm : wm.heap[g0]? = W9.heap[g0]? := (hbm.block g0 (by (try simp only [World.size_alloc, World.size_drew]); omega)).trans ((Below.heap_setCell _ _ _ _ (by show g0 ≠ gc; omega)).trans ((Below.heap_alloc _ _ g0 (by omega)).trans (hbt.block g0 (by (try simp only [World.size_alloc, World.size_drew]); omega))))
              have hAm : Rd wm (some ⟨g0, 0, none⟩) xs := HA9.out.at_ (fun a ha => by obtain rfl := Option.some.inj ha; exact hgm)
              (repeat' (first | exact hAm | refine Rd.far ?_ (fun a ha => by obtain rfl := Option.some.inj ha; dsimp only; omega) _ | refine Rd.mono hAm (by (repeat' (first | (with_reducible exact Below.refl _ _) | (with_reducible assumption) | (with_reducible refine Below.alloc ?_ ?_ _) | (with_reducible refine Below.drew ?_) | (with_reducible refine below_drewN ?_ _) | (with_reducible refine Below.setCell ?_ ?_ _) | (with_reducible refine chain ?_ (by assumption) ?_) | omega | (simp; done) | (simp; omega))))))
            · show Below _ _ _
              have hBt2 : Below w.heap.size w (wt.alloc (.cells #[.slice none 0 0] 51)) := by (repeat' (first | (with_reducible exact Below.refl _ _) | (with_reducible assumption) | (with_reducible refine Below.alloc ?_ ?_ _) | (with_reducible refine Below.drew ?_) | (with_reducible refine below_drewN ?_ _) | (with_reducible refine Below.setCell ?_ ?_ _) | (with_reducible refine chain ?_ (by assumption) ?_) | omega | (simp; done) | (simp; omega)))
              have hBm := bad_below hBt2 hbm (by omega)
              clear hBt2
              (repeat' (first | (with_reducible exact Below.refl _ _) | (with_reducible assumption) | (with_reducible refine Below.alloc ?_ ?_ _) | (with_reducible refine Below.drew ?_) | (with_reducible refine below_drewN ?_ _) | (with_reducible refine Below.setCell ?_ ?_ _) | (with_reducible refine chain ?_ (by assumption) ?_) | omega | (simp; done) | (simp; omega)))
        · go_simp
          refine hK.out _ _ (fun _ => ?_) (fun hS1 => ?_)
          · first | exact ⟨kal hS0.1, kal hS0.2⟩ | exact ⟨kald hS0.1, kald hS0.2⟩
          clear hK K
          have hS1 := hS1 (by decide)
          try simp only [Act.put, List.setIfInBounds_toArray, List.set_cons_zero, List.set_cons_succ]
          refine wpAnyX_one (i := 3) (o := _) rfl (by kernel_rfl) (fun K hK => ?_)
          go_simp
          refine (ltr (xs := xs) ?_ HN.out).mono ?_
          · exact HA9.out.mono (by (repeat' (first | (with_reducible exact Below.refl _ _) | (with_reducible assumption) | (with_reducible refine Below.alloc ?_ ?_ _) | (with_reducible refine Below.drew ?_) | (with_reducible refine below_drewN ?_ _) | (with_reducible refine Below.setCell ?_ ?_ _) | (with_reducible refine chain ?_ (by assumption) ?_) | omega | (simp; done) | (simp; omega))))
          rintro ee wt ⟨Bt, ct, rfl, hRt, hBt, hbt⟩
          have hzt := hbt.size
          (try simp only [World.size_drew, World.size_alloc] at hzt)
          obtain ⟨h0, o0, rfl, -⟩ := hRt 0 (tpF xs 0) (tab_get (by decide))
          have hh0 := hBt _ rfl
          (try simp only [World.size_drew, World.size_alloc] at hh0)
          refine hK.out _ _ (fun _ => ?_) (fun hS2 => ?_)
          · exact ⟨kc hbt hS1.1, kc hbt hS1.2⟩
          clear hK K
          have hS2 := hS2 (by decide)
          try simp only [Act.put, List.setIfInBounds_toArray, List.set_cons_zero, List.set_cons_succ]
          refine wpAnyX_one (i := 4) (o := _) rfl (by kernel_rfl) (fun K hK => ?_)
          go_simp
          refine (blm (gc := gc) (xs := xs) (ys := tab 9 (tpF xs)) ?_ ?_ HN.out (tab_len _ _) (allR_B HR.out) (tr_ok HN.out (allR_B HR.out)) ?_ (by omega) (by omega)).mono ?_
          · exact HA9.out.mono (by (repeat' (first | (with_reducible exact Below.refl _ _) | (with_reducible assumption) | (with_reducible refine Below.alloc ?_ ?_ _) | (with_reducible refine Below.drew ?_) | (with_reducible refine below_drewN ?_ _) | (with_reducible refine Below.setCell ?_ ?_ _) | (with_reducible refine chain ?_ (by assumption) ?_) | omega | (simp; done) | (simp; omega))))
          · exact hRt.mono (by (repeat' (first | (with_reducible exact Below.refl _ _) | (with_reducible assumption) | (with_reducible refine Below.alloc ?_ ?_ _) | (with_reducible refine Below.drew ?_) | (with_reducible refine below_drewN ?_ _) | (with_reducible refine Below.setCell ?_ ?_ _) | (with_reducible refine chain ?_ (by assumption) ?_) | omega | (simp; done) | (simp; omega))))
          · exact (Bx.mono (Bx.drew (Bx.alloc XF9 _)) hbt)
          rintro ee wm ⟨z, zs, Bo, cq, rfl, hS, hRd, hBa, hbm⟩
          have hzm := bad_size hbm
          have hBl : ∀ a, Bo = some a → a.block < wm.heap.size := by
            intro a ha
            subst ha
            obtain ⟨x9, hx9⟩ : ∃ x, zs[0]? = some x := ⟨_, List.getElem?_eq_getElem (by rw [hS.1]; decide)⟩
            obtain ⟨g9, o9, e9, hc9⟩ := hRd 0 x9 hx9
            obtain rfl := Option.some.inj e9
            exact hc9.lt
          (try simp only [World.size_drew, World.size_alloc] at hzm hBa)
          have XFm := Bx.bad (Bx.mono (Bx.drew (Bx.alloc XF9 _)) hbt) hbm
          refine hK.out _ _ (fun _ => ?_) (fun hS3 => ?_)
          · exact ⟨kbad hbm (by omega) hS2.1, kbad hbm (by omega) hS2.2⟩
          clear hK K
          have hS3 := hS3 (by decide)
          try simp only [Act.put, List.setIfInBounds_toArray, List.set_cons_zero, List.set_cons_succ]
          refine wpAnyX_one (i := 6) (o := _) rfl (by kernel_rfl) (fun K hK => ?_)
          have XR : Bx _ (W9.heap.size) 51 #[.slice none 0 0] := (Bx.badly (Bx.mono (Bx.drew (Bx.new (t := 51) (cs := #[.slice none 0 0]) (by first | rfl | (simp; done)))) hbt) hbm (by omega))
          have xr0 := XR.c 0 rfl
          have xrf := XR.f
          have xrl := XR.lt
          go_simp
          refine hK.out _ _ (fun _ => ?_) (fun hS4 => ?_)
          · exact ⟨kst1 (by omega) hS3.1, kst1 (by omega) hS3.2⟩
          clear hK K
          have hS4 := hS4 (by decide)
          try simp only [Act.put, List.setIfInBounds_toArray, List.set_cons_zero, List.set_cons_succ]
          refine wpAnyX_done (by kernel_rfl) ?_ _
          have hzz : True := trivial
          go_wp2_with (fail)
          go_meet
          refine ⟨_, z, zs, Bo, cq, rfl, hS, ?_, ?_, ?_, ?_, ?_, ?_, ?_⟩
          · show _ ∧ _; refine ⟨?_, ?_, ?_⟩ <;> first | omega | (intro a ha; have h9 := hBa a ha; have h8 := hBl a ha; omega)
          · show Bx _ _ _ _
            first | exact Bx.far (Bx.badly (Bx.mono (Bx.drew (Bx.alloc XB9 _)) hbt) hbm (by omega)) (by omega) | exact (Bx.badly (Bx.mono (Bx.drew (Bx.alloc XB9 _)) hbt) hbm (by omega))
          · show Bx _ _ _ _
            first | exact Bx.far XFm (by omega) | exact XFm
          · show Bx _ _ _ _
            first | exact Bx.set (i := 0) (u := .slice Bo 9 cq) XR rfl | exact Bx.new (by first | rfl | (simp; done)) | exact Bx.set (i := 0) (u := .slice Bo 9 cq) (Bx.new (by first | rfl | (simp; done))) rfl
          · show Rd _ _ _
            (repeat' (first | exact hRd | refine Rd.far ?_ (fun a ha => by have h9 := hBa a ha; dsimp only; omega) _ | refine Rd.mono hRd (by (repeat' (first | (with_reducible exact Below.refl _ _) | (with_reducible assumption) | (with_reducible refine Below.alloc ?_ ?_ _) | (with_reducible refine Below.drew ?_) | (with_reducible refine below_drewN ?_ _) | (with_reducible refine Below.setCell ?_ ?_ _) | (with_reducible refine chain ?_ (by assumption) ?_) | omega | (simp; done) | (simp; omega))))))
          · show Rd _ _ _
            have hgm : wm.heap[g0]? = W9.heap[g0]? := (hbm.block g0 (by (try simp only [World.size_alloc, World.size_drew]); omega)).trans ((Below.heap_setCell _ _ _ _ (by show g0 ≠ gc; omega)).trans ((hbt.block g0 (by (try simp only [World.size_alloc, World.size_drew]); omega)).trans (Below.heap_alloc _ _ g0 (by (try simp only [World.size_drew]); omega))))
            have hAm : Rd wm (some ⟨g0, 0, none⟩) xs := HA9.out.at_ (fun a ha => by obtain rfl := Option.some.inj ha; exact hgm)
            (repeat' (first | exact hAm | refine Rd.far ?_ (fun a ha => by obtain rfl := Option.some.inj ha; dsimp only; omega) _ | refine Rd.mono hAm (by (repeat' (first | (with_reducible exact Below.refl _ _) | (with_reducible assumption) | (with_reducible refine Below.alloc ?_ ?_ _) | (with_reducible refine Below.drew ?_) | (with_reducible refine below_drewN ?_ _) | (with_reducible refine Below.setCell ?_ ?_ _) | (with_reducible refine chain ?_ (by assumption) ?_) | omega | (simp; done) | (simp; omega))))))
          · show Below _ _ _
            have hBt2 : Below w.heap.size w wt := by (repeat' (first | (with_reducible exact Below.refl _ _) | (with_reducible assumption) | (with_reducible refine Below.alloc ?_ ?_ _) | (with_reducible refine Below.drew ?_) | (with_reducible refine below_drewN ?_ _) | (with_reducible refine Below.setCell ?_ ?_ _) | (with_reducible refine chain ?_ (by assumption) ?_) | omega | (simp; done) | (simp; omega)))
            have hBm := bad_below hBt2 hbm (by omega)
            clear hBt2
            (repeat' (first | (with_reducible exact Below.refl _ _) | (with_reducible assumption) | (with_reducible refine Below.alloc ?_ ?_ _) | (with_reducible refine Below.drew ?_) | (with_reducible refine below_drewN ?_ _) | (with_reducible refine Below.setCell ?_ ?_ _) | (with_reducible refine chain ?_ (by assumption) ?_) | omega | (simp; done) | (simp; omega)))
      case rest =>
        obtain ⟨w10, rfl⟩ : ∃ w10, w10 = wc := ⟨_, rfl⟩
        obtain ⟨gx, z, zs, Bo, cq, rfl, HS, HNE, XB, XF, XX, HRZ, HRA, HB⟩ := hcut
        obtain ⟨hne1, hne2, hne3⟩ := HNE.out
        clear XF9 XB9 hB9 hz9 HA9 xb xb2
        obtain ⟨x0, hx0⟩ : ∃ x, x = xs.getD 0 z5 := ⟨_, rfl⟩
        have HE0 := hid hx0
        have HK0 : Hid (x0.ok = true) := by show _ = _; rw [hx0]; exact okD (allR_B HR.out) (by rw [HN.out]; decide)
        clear hx0
        obtain ⟨x1, hx1⟩ : ∃ x, x = xs.getD 1 z5 := ⟨_, rfl⟩
        have HE1 := hid hx1
        have HK1 : Hid (x1.ok = true) := by show _ = _; rw [hx1]; exact okD (allR_B HR.out) (by rw [HN.out]; decide)
        clear hx1
        obtain ⟨x2, hx2⟩ : ∃ x, x = xs.getD 2 z5 := ⟨_, rfl⟩
        have HE2 := hid hx2
        have HK2 : Hid (x2.ok = true) := by show _ = _; rw [hx2]; exact okD (allR_B HR.out) (by rw [HN.out]; decide)
        clear hx2
        obtain ⟨m12, hm12⟩ : ∃ m, mnr (fun i => xs.getD i z5) 1 2 = m := ⟨_, rfl⟩
        have HM12 := hid hm12
        have HK12 : Hid (m12.1.ok = true) := by show _ = _; rw [← hm12]; exact mnr_ok HN.out (allR_B HR.out) (by decide) (by decide)
        clear hm12
        obtain ⟨m02, hm02⟩ : ∃ m, mnr (fun i => xs.getD i z5) 0 2 = m := ⟨_, rfl⟩
        have HM02 := hid hm02
        have HK02 : Hid (m02.1.ok = true) := by show _ = _; rw [← hm02]; exact mnr_ok HN.out (allR_B HR.out) (by decide) (by decide)
        clear hm02
        obtain ⟨m01, hm01⟩ : ∃ m, mnr (fun i => xs.getD i z5) 0 1 = m := ⟨_, rfl⟩
        have HM01 := hid hm01
        have HK01 : Hid (m01.1.ok = true) := by show _ = _; rw [← hm01]; exact mnr_ok HN.out (allR_B HR.out) (by decide) (by decide)
        clear hm01
        have xb := XB.out.c 0 rfl
        obtain ⟨p0, p1, p2, p3, p4⟩ : Cx w10 g0 0 x0 := by rw [HE0.out]; exact HRA.out.at9 (i := 0) (by rw [HN.out]; decide)
        have hRl := HRA.out.ltA (by rw [HN.out]; decide)
        have hgl2 : g0 < w10.heap.size := hRl _ rfl
        have hZl := HRZ.out.ltA (by rw [HS.out.1]; decide)
        have xxl := XX.out.lt
        have xfl := XF.out.lt
        have xbl := XB.out.lt
        go_upto_region 11 with (fail)
        go_cut [7] (fun s7 wx => ∃ gd : Nat, s7 = .pointer (some ⟨gd, 0, none⟩) ∧ Hid (gc < gd ∧ gd ≠ gx ∧ ∀ a, Bo = some a → a.block ≠ gd) ∧ Hid (Bx wx w.heap.size 51 #[.slice (some ⟨g0, 0, none⟩) 9 cp]) ∧ Hid (Bx wx gc 116 #[.bool (z || m12.2 || (mulS false x0 m12.1).2)]) ∧ Hid (Bx wx gx 51 #[.slice Bo 9 cq]) ∧ Hid (Rd wx Bo zs) ∧ Hid (Rd wx (some ⟨g0, 0, none⟩) xs) ∧ Hid (Bx wx gd 99 #[.int .i64 (mulS false x0 m12.1).1.a, .int .i64 (mulS false x0 m12.1).1.b, .int .i64 (mulS false x0 m12.1).1.c, .int .i64 (mulS false x0 m12.1).1.d, .int .i64 (mulS false x0 m12.1).1.e]) ∧ Hid (Below w.heap.size w wx))
        case first =>
          have yxb : w10.drew.cell? ⟨w.heap.size, 0, none⟩ = some (.slice (some ⟨g0, 0, none⟩) 9 cp) := xb
          have yp0 : w10.drew.cell? ⟨g0, 0, none⟩ = some (.int .i64 x0.a) := p0
          have yp1 : w10.drew.cell? ⟨g0, 0 + 1, none⟩ = some (.int .i64 x0.b) := p1
          have yp2 : w10.drew.cell? ⟨g0, 0 + 2, none⟩ = some (.int .i64 x0.c) := p2
          have yp3 : w10.drew.cell? ⟨g0, 0 + 3, none⟩ = some (.int .i64 x0.d) := p3
          have yp4 : w10.drew.cell? ⟨g0, 0 + 4, none⟩ = some (.int .i64 x0.e) := p4
          refine wp_region_x (fun w' => w'.cell? ⟨w.heap.size, 0, none⟩ = some (.slice (some ⟨g0, 0, none⟩) 9 cp) ∧ w'.cell? ⟨g0, 0, none⟩ = some (.int .i64 x0.a) ∧ w'.cell? ⟨g0, 0 + 1, none⟩ = some (.int .i64 x0.b) ∧ w'.cell? ⟨g0, 0 + 2, none⟩ = some (.int .i64 x0.c) ∧ w'.cell? ⟨g0, 0 + 3, none⟩ = some (.int .i64 x0.d) ∧ w'.cell? ⟨g0, 0 + 4, none⟩ = some (.int .i64 x0.e)) 1000 (by kernel_rfl) ⟨yxb, yp0, yp1, yp2, yp3, yp4⟩ (fun hS0 => ?_)
          refine wpAnyX_take (i := 0) (oi := _) (v := ?_) rfl (by kernel_rfl) (by kernel_rfl) (by kernel_rfl) (by kernel_rfl) (fun _ _ _ h => h) (Or.inl ⟨by rfl, ?_⟩) hS0 ?_
          rotate_left 1
          · (intro w hSw; (try dsimp only at hSw); go_simp; (try with_reducible rfl))
          try simp only [Act.put, List.setIfInBounds_toArray, List.set_cons_zero, List.set_cons_succ]
          refine wpAnyX_take (i := 1) (oi := _) (v := ?_) rfl (by kernel_rfl) (by kernel_rfl) (by kernel_rfl) (by kernel_rfl) (fun _ _ _ h => h) (Or.inl ⟨by rfl, ?_⟩) hS0 ?_
          rotate_left 1
          · (intro w hSw; (try dsimp only at hSw); go_simp; (try with_reducible rfl))
          try simp only [Act.put, List.setIfInBounds_toArray, List.set_cons_zero, List.set_cons_succ]
          refine wpAnyX_take (i := 2) (oi := _) (v := ?_) rfl (by kernel_rfl) (by kernel_rfl) (by kernel_rfl) (by kernel_rfl) (fun _ _ _ h => h) (Or.inl ⟨by rfl, ?_⟩) hS0 ?_
          rotate_left 1
          · (intro w hSw; (try dsimp only at hSw); go_simp; (try with_reducible rfl))
          try simp only [Act.put, List.setIfInBounds_toArray, List.set_cons_zero, List.set_cons_succ]
          refine wpAnyX_take (i := 3) (oi := _) (v := ?_) rfl (by kernel_rfl) (by kernel_rfl) (by kernel_rfl) (by kernel_rfl) (fun _ _ _ h => h) (Or.inl ⟨by rfl, ?_⟩) hS0 ?_
          rotate_left 1
          · (intro w hSw; (try dsimp only at hSw); go_simp; (try with_reducible rfl))
          try simp only [Act.put, List.setIfInBounds_toArray, List.set_cons_zero, List.set_cons_succ]
          refine wpAnyX_take (i := 4) (oi := _) (v := ?_) rfl (by kernel_rfl) (by kernel_rfl) (by kernel_rfl) (by kernel_rfl) (fun _ _ _ h => h) (Or.inl ⟨by rfl, ?_⟩) hS0 ?_
          rotate_left 1
          · (intro w hSw; (try dsimp only at hSw); go_simp; (try with_reducible rfl))
          try simp only [Act.put, List.setIfInBounds_toArray, List.set_cons_zero, List.set_cons_succ]
          refine wpAnyX_take (i := 5) (oi := _) (v := ?_) rfl (by kernel_rfl) (by kernel_rfl) (by kernel_rfl) (by kernel_rfl) (fun _ _ _ h => h) (Or.inl ⟨by rfl, ?_⟩) hS0 ?_
          rotate_left 1
          · (intro w hSw; (try dsimp only at hSw); go_simp; (try with_reducible rfl))
          try simp only [Act.put, List.setIfInBounds_toArray, List.set_cons_zero, List.set_cons_succ]
          refine wpAnyX_take (i := 6) (oi := _) (v := ?_) rfl (by kernel_rfl) (by kernel_rfl) (by kernel_rfl) (by kernel_rfl) (fun _ _ _ h => h) (Or.inl ⟨by rfl, ?_⟩) hS0 ?_
          rotate_left 1
          · (intro w hSw; (try dsimp only at hSw); go_simp; (try with_reducible rfl))
          try simp only [Act.put, List.setIfInBounds_toArray, List.set_cons_zero, List.set_cons_succ]
          refine wpAnyX_two (i := 7) (j := 9) (oi := _) (oj := _) rfl rfl (by kernel_rfl) (fun K hK => ?_) (fun K hK => ?_)
          · go_simp
            refine (mnr_t12 (gc := gc) (xs := xs) (z := z) (m := m12) ?_ HN.out (allR_B HR.out) ?_ (by omega) HM12.out).mono ?_
            · exact HRA.out.mono (by (repeat' (first | (with_reducible exact Below.refl _ _) | (with_reducible assumption) | (with_reducible refine Below.alloc ?_ ?_ _) | (with_reducible refine Below.drew ?_) | (with_reducible refine below_drewN ?_ _) | (with_reducible refine Below.setCell ?_ ?_ _) | (with_reducible refine chain ?_ (by assumption) ?_) | omega | (simp; done) | (simp; omega))))
            · exact (Bx.drew XF.out)
            rintro ee w7 ⟨rfl, hb7⟩
            have hz7 := bad_size hb7
            (try simp only [World.size_drew, World.size_alloc] at hz7)
            have XF7 : Bx _ _ _ _ := (Bx.bad (Bx.drew XF.out) hb7)
            refine hK.out _ _ (fun _ => ?_) (fun hS1 => ?_)
            · exact ⟨kbad hb7 (by omega) (hS0.1), kbad hb7 (by omega) (hS0.2.1), kbad hb7 (by omega) (hS0.2.2.1), kbad hb7 (by omega) (hS0.2.2.2.1), kbad hb7 (by omega) (hS0.2.2.2.2.1), kbad hb7 (by omega) (hS0.2.2.2.2.2)⟩
            clear hK K
            have hS1 := hS1 (by decide)
            try simp only [Act.put, List.setIfInBounds_toArray, List.set_cons_zero, List.set_cons_succ]
            refine wpAnyX_two (i := 8) (j := 9) (oi := _) (oj := _) rfl rfl (by kernel_rfl) (fun K hK => ?_) (fun K hK => ?_)
            · have XF7b : Bx _ _ _ _ := XF7
              have yf0 := XF7b.c 0 rfl
              have yff := XF7b.f
              go_simp
              refine (cmulO (x := x0) (y := m12.1) (z := z || m12.2) HK0.out HK12.out (by exact yf0) (by exact yff 0)).mono ?_
              rintro ee w8 ⟨rfl, hb8⟩
              have hz8 := bad_size hb8
              (try simp only [World.size_drew, World.size_alloc] at hz8)
              have XF8 := Bx.bad XF7b hb8
              refine hK.out _ _ (fun _ => ?_) (fun hS2 => ?_)
              · exact ⟨kbad hb8 (by omega) (hS1.1), kbad hb8 (by omega) (hS1.2.1), kbad hb8 (by omega) (hS1.2.2.1), kbad hb8 (by omega) (hS1.2.2.2.1), kbad hb8 (by omega) (hS1.2.2.2.2.1), kbad hb8 (by omega) (hS1.2.2.2.2.2)⟩
              clear hK K
              have hS2 := hS2 (by decide)
              try simp only [Act.put, List.setIfInBounds_toArray, List.set_cons_zero, List.set_cons_succ]
              refine wpAnyX_one (i := 9) (o := _) rfl (by kernel_rfl) (fun K hK => ?_)
              go_simp
              refine hK.out _ _ (fun _ => ?_) (fun hS3 => ?_)
              · first | exact ⟨kal (hS2.1), kal (hS2.2.1), kal (hS2.2.2.1), kal (hS2.2.2.2.1), kal (hS2.2.2.2.2.1), kal (hS2.2.2.2.2.2)⟩ | exact ⟨kald (hS2.1), kald (hS2.2.1), kald (hS2.2.2.1), kald (hS2.2.2.2.1), kald (hS2.2.2.2.2.1), kald (hS2.2.2.2.2.2)⟩
              clear hK K
              have hS3 := hS3 (by decide)
              try simp only [Act.put, List.setIfInBounds_toArray, List.set_cons_zero, List.set_cons_succ]
              refine wpAnyX_one (i := 10) (o := _) rfl (by kernel_rfl) (fun K hK => ?_)
              go_simp
              refine hK.out _ _ (fun _ => ?_) (fun hS4 => ?_)
              · first | exact ⟨kst5 (by omega) (hS3.1), kst5 (by omega) (hS3.2.1), kst5 (by omega) (hS3.2.2.1), kst5 (by omega) (hS3.2.2.2.1), kst5 (by omega) (hS3.2.2.2.2.1), kst5 (by omega) (hS3.2.2.2.2.2)⟩ | exact ⟨kre (by omega) (hS3.1), kre (by omega) (hS3.2.1), kre (by omega) (hS3.2.2.1), kre (by omega) (hS3.2.2.2.1), kre (by omega) (hS3.2.2.2.2.1), kre (by omega) (hS3.2.2.2.2.2)⟩ | exact ⟨kal (hS2.1), kal (hS2.2.1), kal (hS2.2.2.1), kal (hS2.2.2.2.1), kal (hS2.2.2.2.2.1), kal (hS2.2.2.2.2.2)⟩
              clear hK K
              have hS4 := hS4 (by decide)
              try simp only [Act.put, List.setIfInBounds_toArray, List.set_cons_zero, List.set_cons_succ]
              refine wpAnyX_done (by kernel_rfl) ?_ _
              have hg8 : ∀ b, b < w10.heap.size → b ≠ gc → w8.heap[b]? = w10.heap[b]? := fun b hb hbc => (hb8.block b (by omega)).trans ((Below.heap_setCell _ _ _ _ (by dsimp only; exact hbc)).trans ((hb7.block b (by (try simp only [World.size_drew]); omega)).trans (Below.heap_setCell _ _ _ _ (by dsimp only; exact hbc))))
              have hB7 := bad_below (w := w) (W := w10.drew) (Below.drew HB.out) hb7 (by omega)
              have hB8 := bad_below hB7 hb8 (by omega)
              have hRA8 : Rd w8 (some ⟨g0, 0, none⟩) xs := HRA.out.at_ (fun a ha => hg8 _ (hRl a ha) (by obtain rfl := Option.some.inj ha; dsimp only; omega))
              have hRZ8 : Rd w8 Bo zs := HRZ.out.at_ (fun a ha => hg8 _ (hZl a ha) (by have h9 := (hne3 a ha).1; omega))
              go_wp2_with (fail)
              go_meet
              refine ⟨_, rfl, ?_, ?_, ?_, ?_, ?_, ?_, ?_, ?_⟩
              · show _ ∧ _; refine ⟨?_, ?_, ?_⟩ <;> first | omega | (intro a ha; have h9 := hZl a ha; omega)
              · show Bx _ _ _ _
                first | exact Bx.far5 (mulS false x0 m12.1).1 (Bx.alloc (Bx.badly (Bx.badly (Bx.drew XB.out) hb7 (by omega)) hb8 (by omega)) _) (by omega) | exact (Bx.alloc (Bx.badly (Bx.badly (Bx.drew XB.out) hb7 (by omega)) hb8 (by omega)) _)
              · show Bx _ _ _ _
                first | exact Bx.far5 (mulS false x0 m12.1).1 (Bx.alloc XF8 _) (by omega) | exact (Bx.alloc XF8 _)
              · show Bx _ _ _ _
                first | exact Bx.far5 (mulS false x0 m12.1).1 (Bx.alloc (Bx.badly (Bx.badly (Bx.drew XX.out) hb7 (by omega)) hb8 (by omega)) _) (by omega) | exact (Bx.alloc (Bx.badly (Bx.badly (Bx.drew XX.out) hb7 (by omega)) hb8 (by omega)) _)
              · show Rd _ _ _
                first | exact hRZ8.at_ (fun a ha => set5_far (by have h9 := hZl a ha; omega)) | exact hRZ8.mono (by (repeat' (first | (with_reducible exact Below.refl _ _) | (with_reducible assumption) | (with_reducible refine Below.alloc ?_ ?_ _) | (with_reducible refine Below.drew ?_) | (with_reducible refine below_drewN ?_ _) | (with_reducible refine Below.setCell ?_ ?_ _) | (with_reducible refine chain ?_ (by assumption) ?_) | omega | (simp; done) | (simp; omega))))
              · show Rd _ _ _
                first | exact hRA8.at_ (fun a ha => set5_far (by obtain rfl := Option.some.inj ha; dsimp only; omega)) | exact hRA8.mono (by (repeat' (first | (with_reducible exact Below.refl _ _) | (with_reducible assumption) | (with_reducible refine Below.alloc ?_ ?_ _) | (with_reducible refine Below.drew ?_) | (with_reducible refine below_drewN ?_ _) | (with_reducible refine Below.setCell ?_ ?_ _) | (with_reducible refine chain ?_ (by assumption) ?_) | omega | (simp; done) | (simp; omega))))
              · show Bx _ _ _ _
                first | exact XR.set5 (mulS false x0 m12.1).1 | exact Bx.new (by first | rfl | (simp; done)) | exact Bx.set5 (mulS false x0 m12.1).1 (x := z5) (Bx.new (by first | rfl | (simp; done)))
              · show Below _ _ _
                first | exact set5_below (x := (mulS false x0 m12.1).1) hB8 (by omega) | exact hB8.alloc (by omega) _ | exact set5_below (x := (mulS false x0 m12.1).1) (hB8.alloc (by omega) _) (by omega)
            · go_simp
              refine hK.out _ _ (fun _ => ?_) (fun hS2 => ?_)
              · first | exact ⟨kal (hS1.1), kal (hS1.2.1), kal (hS1.2.2.1), kal (hS1.2.2.2.1), kal (hS1.2.2.2.2.1), kal (hS1.2.2.2.2.2)⟩ | exact ⟨kald (hS1.1), kald (hS1.2.1), kald (hS1.2.2.1), kald (hS1.2.2.2.1), kald (hS1.2.2.2.2.1), kald (hS1.2.2.2.2.2)⟩
              clear hK K
              have hS2 := hS2 (by decide)
              try simp only [Act.put, List.setIfInBounds_toArray, List.set_cons_zero, List.set_cons_succ]
              refine wpAnyX_one (i := 8) (o := _) rfl (by kernel_rfl) (fun K hK => ?_)
              have XF7b : Bx _ _ _ _ := (Bx.alloc XF7 (.cells #[.int .i64 0, .int .i64 0, .int .i64 0, .int .i64 0, .int .i64 0] 99))
              have yf0 := XF7b.c 0 rfl
              have yff := XF7b.f
              go_simp
              refine (cmulO (x := x0) (y := m12.1) (z := z || m12.2) HK0.out HK12.out (by exact yf0) (by exact yff 0)).mono ?_
              rintro ee w8 ⟨rfl, hb8⟩
              have hz8 := bad_size hb8
              (try simp only [World.size_drew, World.size_alloc] at hz8)
              have XF8 := Bx.bad XF7b hb8
              refine hK.out _ _ (fun _ => ?_) (fun hS3 => ?_)
              · exact ⟨kbad hb8 (by omega) (hS2.1), kbad hb8 (by omega) (hS2.2.1), kbad hb8 (by omega) (hS2.2.2.1), kbad hb8 (by omega) (hS2.2.2.2.1), kbad hb8 (by omega) (hS2.2.2.2.2.1), kbad hb8 (by omega) (hS2.2.2.2.2.2)⟩
              clear hK K
              have hS3 := hS3 (by decide)
              try simp only [Act.put, List.setIfInBounds_toArray, List.set_cons_zero, List.set_cons_succ]
              refine wpAnyX_one (i := 10) (o := _) rfl (by kernel_rfl) (fun K hK => ?_)
              have XR : Bx _ (w7.heap.size) 99 #[.int .i64 z5.a, .int .i64 z5.b, .int .i64 z5.c, .int .i64 z5.d, .int .i64 z5.e] := (Bx.badly (Bx.new (t := 99) (cs := #[.int .i64 z5.a, .int .i64 z5.b, .int .i64 z5.c, .int .i64 z5.d, .int .i64 z5.e]) (by first | rfl | (simp; done))) hb8 (by omega))
              have r0 := XR.c 0 rfl
              have r1 := XR.c 1 rfl
              have r2 := XR.c 2 rfl
              have r3 := XR.c 3 rfl
              have r4 := XR.c 4 rfl
              have rf := XR.f
              have rl := XR.lt
              go_simp
              refine hK.out _ _ (fun _ => ?_) (fun hS4 => ?_)
              · exact ⟨kst5 (by omega) (hS3.1), kst5 (by omega) (hS3.2.1), kst5 (by omega) (hS3.2.2.1), kst5 (by omega) (hS3.2.2.2.1), kst5 (by omega) (hS3.2.2.2.2.1), kst5 (by omega) (hS3.2.2.2.2.2)⟩
              clear hK K
              have hS4 := hS4 (by decide)
              try simp only [Act.put, List.setIfInBounds_toArray, List.set_cons_zero, List.set_cons_succ]
              refine wpAnyX_done (by kernel_rfl) ?_ _
              have hg8 : ∀ b, b < w10.heap.size → b ≠ gc → w8.heap[b]? = w10.heap[b]? := fun b hb hbc => (hb8.block b (by (try simp only [World.size_alloc]); omega)).trans ((Below.heap_setCell _ _ _ _ (by dsimp only; exact hbc)).trans ((Below.heap_alloc _ _ b (by omega)).trans ((hb7.block b (by (try simp only [World.size_drew]); omega)).trans (Below.heap_setCell _ _ _ _ (by dsimp only; exact hbc)))))
              have hB7 := bad_below (w := w) (W := w10.drew) (Below.drew HB.out) hb7 (by omega)
              have hB7a : Below w.heap.size w (w7.alloc (.cells #[.int .i64 z5.a, .int .i64 z5.b, .int .i64 z5.c, .int .i64 z5.d, .int .i64 z5.e] 99)) := hB7.alloc (by omega) _
              have hB8 := bad_below hB7a hb8 (by omega)
              have hRA8 : Rd w8 (some ⟨g0, 0, none⟩) xs := HRA.out.at_ (fun a ha => hg8 _ (hRl a ha) (by obtain rfl := Option.some.inj ha; dsimp only; omega))
              have hRZ8 : Rd w8 Bo zs := HRZ.out.at_ (fun a ha => hg8 _ (hZl a ha) (by have h9 := (hne3 a ha).1; omega))
              go_wp2_with (fail)
              go_meet
              refine ⟨_, rfl, ?_, ?_, ?_, ?_, ?_, ?_, ?_, ?_⟩
              · show _ ∧ _; refine ⟨?_, ?_, ?_⟩ <;> first | omega | (intro a ha; have h9 := hZl a ha; omega)
              · show Bx _ _ _ _
                first | exact Bx.far5 (mulS false x0 m12.1).1 (Bx.badly (Bx.alloc (Bx.badly (Bx.drew XB.out) hb7 (by omega)) _) hb8 (by omega)) (by omega) | exact (Bx.badly (Bx.alloc (Bx.badly (Bx.drew XB.out) hb7 (by omega)) _) hb8 (by omega))
              · show Bx _ _ _ _
                first | exact Bx.far5 (mulS false x0 m12.1).1 XF8 (by omega) | exact XF8
              · show Bx _ _ _ _
                first | exact Bx.far5 (mulS false x0 m12.1).1 (Bx.badly (Bx.alloc (Bx.badly (Bx.drew XX.out) hb7 (by omega)) _) hb8 (by omega)) (by omega) | exact (Bx.badly (Bx.alloc (Bx.badly (Bx.drew XX.out) hb7 (by omega)) _) hb8 (by omega))
              · show Rd _ _ _
                first | exact hRZ8.at_ (fun a ha => set5_far (by have h9 := hZl a ha; omega)) | exact hRZ8.mono (by (repeat' (first | (with_reducible exact Below.refl _ _) | (with_reducible assumption) | (with_reducible refine Below.alloc ?_ ?_ _) | (with_reducible refine Below.drew ?_) | (with_reducible refine below_drewN ?_ _) | (with_reducible refine Below.setCell ?_ ?_ _) | (with_reducible refine chain ?_ (by assumption) ?_) | omega | (simp; done) | (simp; omega))))
              · show Rd _ _ _
                first | exact hRA8.at_ (fun a ha => set5_far (by obtain rfl := Option.some.inj ha; dsimp only; omega)) | exact hRA8.mono (by (repeat' (first | (with_reducible exact Below.refl _ _) | (with_reducible assumption) | (with_reducible refine Below.alloc ?_ ?_ _) | (with_reducible refine Below.drew ?_) | (with_reducible refine below_drewN ?_ _) | (with_reducible refine Below.setCell ?_ ?_ _) | (with_reducible refine chain ?_ (by assumption) ?_) | omega | (simp; done) | (simp; omega))))
              · show Bx _ _ _ _
                first | exact XR.set5 (mulS false x0 m12.1).1 | exact Bx.new (by first | rfl | (simp; done)) | exact Bx.set5 (mulS false x0 m12.1).1 (x := z5) (Bx.new (by first | rfl | (simp; done)))
              · show Below _ _ _
                first | exact set5_below (x := (mulS false x0 m12.1).1) hB8 (by omega) | exact hB8.alloc (by omega) _ | exact set5_below (x := (mulS false x0 m12.1).1) (hB8.alloc (by omega) _) (by omega)
          · go_simp
            refine hK.out _ _ (fun _ => ?_) (fun hS1 => ?_)
            · first | exact ⟨kal (hS0.1), kal (hS0.2.1), kal (hS0.2.2.1), kal (hS0.2.2.2.1), kal (hS0.2.2.2.2.1), kal (hS0.2.2.2.2.2)⟩ | exact ⟨kald (hS0.1), kald (hS0.2.1), kald (hS0.2.2.1), kald (hS0.2.2.2.1), kald (hS0.2.2.2.2.1), kald (hS0.2.2.2.2.2)⟩
            clear hK K
            have hS1 := hS1 (by decide)
            try simp only [Act.put, List.setIfInBounds_toArray, List.set_cons_zero, List.set_cons_succ]
            refine wpAnyX_one (i := 7) (o := _) rfl (by kernel_rfl) (fun K hK => ?_)
            go_simp
            refine (mnr_t12 (gc := gc) (xs := xs) (z := z) (m := m12) ?_ HN.out (allR_B HR.out) ?_ (by omega) HM12.out).mono ?_
            · exact HRA.out.mono (by (repeat' (first | (with_reducible exact Below.refl _ _) | (with_reducible assumption) | (with_reducible refine Below.alloc ?_ ?_ _) | (with_reducible refine Below.drew ?_) | (with_reducible refine below_drewN ?_ _) | (with_reducible refine Below.setCell ?_ ?_ _) | (with_reducible refine chain ?_ (by assumption) ?_) | omega | (simp; done) | (simp; omega))))
            · exact (Bx.drew (Bx.alloc XF.out _))
            rintro ee w7 ⟨rfl, hb7⟩
            have hz7 := bad_size hb7
            (try simp only [World.size_drew, World.size_alloc] at hz7)
            have XF7 : Bx _ _ _ _ := (Bx.bad (Bx.drew (Bx.alloc XF.out _)) hb7)
            refine hK.out _ _ (fun _ => ?_) (fun hS2 => ?_)
            · exact ⟨kbad hb7 (by omega) (hS1.1), kbad hb7 (by omega) (hS1.2.1), kbad hb7 (by omega) (hS1.2.2.1), kbad hb7 (by omega) (hS1.2.2.2.1), kbad hb7 (by omega) (hS1.2.2.2.2.1), kbad hb7 (by omega) (hS1.2.2.2.2.2)⟩
            clear hK K
            have hS2 := hS2 (by decide)
            try simp only [Act.put, List.setIfInBounds_toArray, List.set_cons_zero, List.set_cons_succ]
            refine wpAnyX_one (i := 8) (o := _) rfl (by kernel_rfl) (fun K hK => ?_)
            have XF7b : Bx _ _ _ _ := XF7
            have yf0 := XF7b.c 0 rfl
            have yff := XF7b.f
            go_simp
            refine (cmulO (x := x0) (y := m12.1) (z := z || m12.2) HK0.out HK12.out (by exact yf0) (by exact yff 0)).mono ?_
            rintro ee w8 ⟨rfl, hb8⟩
            have hz8 := bad_size hb8
            (try simp only [World.size_drew, World.size_alloc] at hz8)
            have XF8 := Bx.bad XF7b hb8
            refine hK.out _ _ (fun _ => ?_) (fun hS3 => ?_)
            · exact ⟨kbad hb8 (by omega) (hS2.1), kbad hb8 (by omega) (hS2.2.1), kbad hb8 (by omega) (hS2.2.2.1), kbad hb8 (by omega) (hS2.2.2.2.1), kbad hb8 (by omega) (hS2.2.2.2.2.1), kbad hb8 (by omega) (hS2.2.2.2.2.2)⟩
            clear hK K
            have hS3 := hS3 (by decide)
            try simp only [Act.put, List.setIfInBounds_toArray, List.set_cons_zero, List.set_cons_succ]
            refine wpAnyX_one (i := 10) (o := _) rfl (by kernel_rfl) (fun K hK => ?_)
            have XR : Bx _ (w10.heap.size) 99 #[.int .i64 z5.a, .int .i64 z5.b, .int .i64 z5.c, .int .i64 z5.d, .int .i64 z5.e] := (Bx.badly (Bx.badly (Bx.drew (Bx.new (t := 99) (cs := #[.int .i64 z5.a, .int .i64 z5.b, .int .i64 z5.c, .int .i64 z5.d, .int .i64 z5.e]) (by first | rfl | (simp; done)))) hb7 (by omega)) hb8 (by omega))
            have r0 := XR.c 0 rfl
            have r1 := XR.c 1 rfl
            have r2 := XR.c 2 rfl
            have r3 := XR.c 3 rfl
            have r4 := XR.c 4 rfl
            have rf := XR.f
            have rl := XR.lt
            go_simp
            refine hK.out _ _ (fun _ => ?_) (fun hS4 => ?_)
            · exact ⟨kst5 (by omega) (hS3.1), kst5 (by omega) (hS3.2.1), kst5 (by omega) (hS3.2.2.1), kst5 (by omega) (hS3.2.2.2.1), kst5 (by omega) (hS3.2.2.2.2.1), kst5 (by omega) (hS3.2.2.2.2.2)⟩
            clear hK K
            have hS4 := hS4 (by decide)
            try simp only [Act.put, List.setIfInBounds_toArray, List.set_cons_zero, List.set_cons_succ]
            refine wpAnyX_done (by kernel_rfl) ?_ _
            have hg8 : ∀ b, b < w10.heap.size → b ≠ gc → w8.heap[b]? = w10.heap[b]? := fun b hb hbc => (hb8.block b (by omega)).trans ((Below.heap_setCell _ _ _ _ (by dsimp only; exact hbc)).trans ((hb7.block b (by (try simp only [World.size_drew, World.size_alloc]); omega)).trans ((Below.heap_setCell _ _ _ _ (by dsimp only; exact hbc)).trans (Below.heap_alloc _ _ b hb))))
            have hBa : Below w.heap.size w (w10.alloc (.cells #[.int .i64 z5.a, .int .i64 z5.b, .int .i64 z5.c, .int .i64 z5.d, .int .i64 z5.e] 99)) := HB.out.alloc (by omega) _
            have hB7 := bad_below (w := w) (W := (w10.alloc (.cells #[.int .i64 z5.a, .int .i64 z5.b, .int .i64 z5.c, .int .i64 z5.d, .int .i64 z5.e] 99)).drew) (Below.drew hBa) hb7 (by omega)
            have hB8 := bad_below hB7 hb8 (by omega)
            have hRA8 : Rd w8 (some ⟨g0, 0, none⟩) xs := HRA.out.at_ (fun a ha => hg8 _ (hRl a ha) (by obtain rfl := Option.some.inj ha; dsimp only; omega))
            have hRZ8 : Rd w8 Bo zs := HRZ.out.at_ (fun a ha => hg8 _ (hZl a ha) (by have h9 := (hne3 a ha).1; omega))
            go_wp2_with (fail)
            go_meet
            refine ⟨_, rfl, ?_, ?_, ?_, ?_, ?_, ?_, ?_, ?_⟩
            · show _ ∧ _; refine ⟨?_, ?_, ?_⟩ <;> first | omega | (intro a ha; have h9 := hZl a ha; omega)
            · show Bx _ _ _ _
              first | exact Bx.far5 (mulS false x0 m12.1).1 (Bx.badly (Bx.badly (Bx.drew (Bx.alloc XB.out _)) hb7 (by omega)) hb8 (by omega)) (by omega) | exact (Bx.badly (Bx.badly (Bx.drew (Bx.alloc XB.out _)) hb7 (by omega)) hb8 (by omega))
            · show Bx _ _ _ _
              first | exact Bx.far5 (mulS false x0 m12.1).1 XF8 (by omega) | exact XF8
            · show Bx _ _ _ _
              first | exact Bx.far5 (mulS false x0 m12.1).1 (Bx.badly (Bx.badly (Bx.drew (Bx.alloc XX.out _)) hb7 (by omega)) hb8 (by omega)) (by omega) | exact (Bx.badly (Bx.badly (Bx.drew (Bx.alloc XX.out _)) hb7 (by omega)) hb8 (by omega))
            · show Rd _ _ _
              first | exact hRZ8.at_ (fun a ha => set5_far (by have h9 := hZl a ha; omega)) | exact hRZ8.mono (by (repeat' (first | (with_reducible exact Below.refl _ _) | (with_reducible assumption) | (with_reducible refine Below.alloc ?_ ?_ _) | (with_reducible refine Below.drew ?_) | (with_reducible refine below_drewN ?_ _) | (with_reducible refine Below.setCell ?_ ?_ _) | (with_reducible refine chain ?_ (by assumption) ?_) | omega | (simp; done) | (simp; omega))))
            · show Rd _ _ _
              first | exact hRA8.at_ (fun a ha => set5_far (by obtain rfl := Option.some.inj ha; dsimp only; omega)) | exact hRA8.mono (by (repeat' (first | (with_reducible exact Below.refl _ _) | (with_reducible assumption) | (with_reducible refine Below.alloc ?_ ?_ _) | (with_reducible refine Below.drew ?_) | (with_reducible refine below_drewN ?_ _) | (with_reducible refine Below.setCell ?_ ?_ _) | (with_reducible refine chain ?_ (by assumption) ?_) | omega | (simp; done) | (simp; omega))))
            · show Bx _ _ _ _
              first | exact XR.set5 (mulS false x0 m12.1).1 | exact Bx.new (by first | rfl | (simp; done)) | exact Bx.set5 (mulS false x0 m12.1).1 (x := z5) (Bx.new (by first | rfl | (simp; done)))
            · show Below _ _ _
              first | exact set5_below (x := (mulS false x0 m12.1).1) hB8 (by omega) | exact hB8.alloc (by omega) _ | exact set5_below (x := (mulS false x0 m12.1).1) (hB8.alloc (by omega) _) (by omega)
        case rest =>
          obtain ⟨w11, rfl⟩ : ∃ w11, w11 = wc := ⟨_, rfl⟩
          clear XB XF XX HRZ HRA HB xb p0 p1 p2 p3 p4 hRl hgl2 hZl xxl xfl xbl
          obtain ⟨gd, rfl, HND, XB, XF, XX, HRZ, HRA, XD, HB⟩ := hcut
          obtain ⟨hnd1, hnd2, hnd3⟩ := HND.out
          obtain ⟨z1, hqz1⟩ : ∃ q, q = (z || m12.2 || (mulS false x0 m12.1).2) := ⟨_, rfl⟩
          obtain ⟨d1, hqd1⟩ : ∃ q, q = (mulS false x0 m12.1).1 := ⟨_, rfl⟩
          rw [← hqz1] at XF
          rw [← hqd1] at XD
          have HQz1 := hid hqz1
          have HQd1 := hid hqd1
          have HKd1 : Hid (d1.ok = true) := by show _ = _; rw [hqd1]; exact mulS_ok HK0.out HK12.out
          clear hqz1 hqd1
          have xb := XB.out.c 0 rfl
          obtain ⟨p0, p1, p2, p3, p4⟩ : Cx w11 g0 5 x1 := by rw [HE1.out]; exact HRA.out.at9 (i := 1) (by rw [HN.out]; decide)
          have dd0 := XD.out.c 0 rfl
          have dd1 := XD.out.c 1 rfl
          have dd2 := XD.out.c 2 rfl
          have dd3 := XD.out.c 3 rfl
          have dd4 := XD.out.c 4 rfl
          have hRl := HRA.out.ltA (by rw [HN.out]; decide)
          have hgl2 : g0 < w11.heap.size := hRl _ rfl
          have hZl := HRZ.out.ltA (by rw [HS.out.1]; decide)
          have xxl := XX.out.lt
          have xfl := XF.out.lt
          have xbl := XB.out.lt
          have xdl := XD.out.lt
          have hgl3 : g0 < gc := by omega
          go_wp2_with (fail)
          go_cut [] (fun wx => Hid (Bx wx w.heap.size 51 #[.slice (some ⟨g0, 0, none⟩) 9 cp]) ∧ Hid (Bx wx gc 116 #[.bool (z1 || m02.2 || (mulS false x1 m02.1).2 || (addS false d1 (neg5 (mulS false x1 m02.1).1)).2)]) ∧ Hid (Bx wx gx 51 #[.slice Bo 9 cq]) ∧ Hid (Rd wx Bo zs) ∧ Hid (Rd wx (some ⟨g0, 0, none⟩) xs) ∧ Hid (Bx wx gd 99 #[.int .i64 (addS false d1 (neg5 (mulS false x1 m02.1).1)).1.a, .int .i64 (addS false d1 (neg5 (mulS false x1 m02.1).1)).1.b, .int .i64 (addS false d1 (neg5 (mulS false x1 m02.1).1)).1.c, .int .i64 (addS false d1 (neg5 (mulS false x1 m02.1).1)).1.d, .int .i64 (addS false d1 (neg5 (mulS false x1 m02.1).1)).1.e]) ∧ Hid (Below w.heap.size w wx))
          case first =>
            have yxb : w11.drew.cell? ⟨w.heap.size, 0, none⟩ = some (.slice (some ⟨g0, 0, none⟩) 9 cp) := xb
            have yp0 : w11.drew.cell? ⟨g0, 5, none⟩ = some (.int .i64 x1.a) := p0
            have yp1 : w11.drew.cell? ⟨g0, 5 + 1, none⟩ = some (.int .i64 x1.b) := p1
            have yp2 : w11.drew.cell? ⟨g0, 5 + 2, none⟩ = some (.int .i64 x1.c) := p2
            have yp3 : w11.drew.cell? ⟨g0, 5 + 3, none⟩ = some (.int .i64 x1.d) := p3
            have yp4 : w11.drew.cell? ⟨g0, 5 + 4, none⟩ = some (.int .i64 x1.e) := p4
            have ydd0 : w11.drew.cell? ⟨gd, 0, none⟩ = some (.int .i64 d1.a) := dd0
            have ydd1 : w11.drew.cell? ⟨gd, 1, none⟩ = some (.int .i64 d1.b) := dd1
            have ydd2 : w11.drew.cell? ⟨gd, 2, none⟩ = some (.int .i64 d1.c) := dd2
            have ydd3 : w11.drew.cell? ⟨gd, 3, none⟩ = some (.int .i64 d1.d) := dd3
            have ydd4 : w11.drew.cell? ⟨gd, 4, none⟩ = some (.int .i64 d1.e) := dd4
            refine wp_region_x (fun w' => w'.cell? ⟨w.heap.size, 0, none⟩ = some (.slice (some ⟨g0, 0, none⟩) 9 cp) ∧ w'.cell? ⟨g0, 5, none⟩ = some (.int .i64 x1.a) ∧ w'.cell? ⟨g0, 5 + 1, none⟩ = some (.int .i64 x1.b) ∧ w'.cell? ⟨g0, 5 + 2, none⟩ = some (.int .i64 x1.c) ∧ w'.cell? ⟨g0, 5 + 3, none⟩ = some (.int .i64 x1.d) ∧ w'.cell? ⟨g0, 5 + 4, none⟩ = some (.int .i64 x1.e) ∧ w'.cell? ⟨gd, 0, none⟩ = some (.int .i64 d1.a) ∧ w'.cell? ⟨gd, 1, none⟩ = some (.int .i64 d1.b) ∧ w'.cell? ⟨gd, 2, none⟩ = some (.int .i64 d1.c) ∧ w'.cell? ⟨gd, 3, none⟩ = some (.int .i64 d1.d) ∧ w'.cell? ⟨gd, 4, none⟩ = some (.int .i64 d1.e)) 13 (by kernel_rfl) ⟨yxb, yp0, yp1, yp2, yp3, yp4, ydd0, ydd1, ydd2, ydd3, ydd4⟩ (fun hS0 => ?_)
            refine wpAnyX_take (i := 0) (oi := _) (v := ?_) rfl (by kernel_rfl) (by kernel_rfl) (by kernel_rfl) (by kernel_rfl) (fun _ _ _ h => h) (Or.inl ⟨by rfl, ?_⟩) hS0 ?_
            rotate_left 1
            · (intro w hSw; (try dsimp only at hSw); go_simp; (try with_reducible rfl))
            try simp only [Act.put, List.setIfInBounds_toArray, List.set_cons_zero, List.set_cons_succ]
            refine wpAnyX_take (i := 1) (oi := _) (v := ?_) rfl (by kernel_rfl) (by kernel_rfl) (by kernel_rfl) (by kernel_rfl) (fun _ _ _ h => h) (Or.inl ⟨by rfl, ?_⟩) hS0 ?_
            rotate_left 1
            · (intro w hSw; (try dsimp only at hSw); go_simp; (try with_reducible rfl))
            try simp only [Act.put, List.setIfInBounds_toArray, List.set_cons_zero, List.set_cons_succ]
            refine wpAnyX_take (i := 2) (oi := _) (v := ?_) rfl (by kernel_rfl) (by kernel_rfl) (by kernel_rfl) (by kernel_rfl) (fun _ _ _ h => h) (Or.inl ⟨by rfl, ?_⟩) hS0 ?_
            rotate_left 1
            · (intro w hSw; (try dsimp only at hSw); go_simp; (try with_reducible rfl))
            try simp only [Act.put, List.setIfInBounds_toArray, List.set_cons_zero, List.set_cons_succ]
            refine wpAnyX_take (i := 3) (oi := _) (v := ?_) rfl (by kernel_rfl) (by kernel_rfl) (by kernel_rfl) (by kernel_rfl) (fun _ _ _ h => h) (Or.inl ⟨by rfl, ?_⟩) hS0 ?_
            rotate_left 1
            · (intro w hSw; (try dsimp only at hSw); go_simp; (try with_reducible rfl))
            try simp only [Act.put, List.setIfInBounds_toArray, List.set_cons_zero, List.set_cons_succ]
            refine wpAnyX_take (i := 4) (oi := _) (v := ?_) rfl (by kernel_rfl) (by kernel_rfl) (by kernel_rfl) (by kernel_rfl) (fun _ _ _ h => h) (Or.inl ⟨by rfl, ?_⟩) hS0 ?_
            rotate_left 1
            · (intro w hSw; (try dsimp only at hSw); go_simp; (try with_reducible rfl))
            try simp only [Act.put, List.setIfInBounds_toArray, List.set_cons_zero, List.set_cons_succ]
            refine wpAnyX_take (i := 5) (oi := _) (v := ?_) rfl (by kernel_rfl) (by kernel_rfl) (by kernel_rfl) (by kernel_rfl) (fun _ _ _ h => h) (Or.inl ⟨by rfl, ?_⟩) hS0 ?_
            rotate_left 1
            · (intro w hSw; (try dsimp only at hSw); go_simp; (try with_reducible rfl))
            try simp only [Act.put, List.setIfInBounds_toArray, List.set_cons_zero, List.set_cons_succ]
            refine wpAnyX_take (i := 6) (oi := _) (v := ?_) rfl (by kernel_rfl) (by kernel_rfl) (by kernel_rfl) (by kernel_rfl) (fun _ _ _ h => h) (Or.inl ⟨by rfl, ?_⟩) hS0 ?_
            rotate_left 1
            · (intro w hSw; (try dsimp only at hSw); go_simp; (try with_reducible rfl))
            try simp only [Act.put, List.setIfInBounds_toArray, List.set_cons_zero, List.set_cons_succ]
            refine wpAnyX_take (i := 7) (oi := _) (v := ?_) rfl (by kernel_rfl) (by kernel_rfl) (by kernel_rfl) (by kernel_rfl) (fun _ _ _ h => h) (Or.inl ⟨by rfl, ?_⟩) hS0 ?_
            rotate_left 1
            · (intro w hSw; (try dsimp only at hSw); go_simp; (try with_reducible rfl))
            try simp only [Act.put, List.setIfInBounds_toArray, List.set_cons_zero, List.set_cons_succ]
            refine wpAnyX_take (i := 8) (oi := _) (v := ?_) rfl (by kernel_rfl) (by kernel_rfl) (by kernel_rfl) (by kernel_rfl) (fun _ _ _ h => h) (Or.inl ⟨by rfl, ?_⟩) hS0 ?_
            rotate_left 1
            · (intro w hSw; (try dsimp only at hSw); go_simp; (try with_reducible rfl))
            try simp only [Act.put, List.setIfInBounds_toArray, List.set_cons_zero, List.set_cons_succ]
            refine wpAnyX_one (i := 9) (o := _) rfl (by kernel_rfl) (fun K hK => ?_)
            go_simp
            refine (mnr_t02 (gc := gc) (xs := xs) (z := z1) (m := m02) ?_ HN.out (allR_B HR.out) ?_ (by omega) HM02.out).mono ?_
            · exact HRA.out.mono (by (repeat' (first | (with_reducible exact Below.refl _ _) | (with_reducible assumption) | (with_reducible refine Below.alloc ?_ ?_ _) | (with_reducible refine Below.drew ?_) | (with_reducible refine below_drewN ?_ _) | (with_reducible refine Below.setCell ?_ ?_ _) | (with_reducible refine chain ?_ (by assumption) ?_) | omega | (simp; done) | (simp; omega))))
            · exact Bx.drew XF.out
            rintro ee wa ⟨rfl, hba⟩
            have hza := bad_size hba
            (try simp only [World.size_drew] at hza)
            have XFa : Bx wa gc 116 #[.bool (z1 || m02.2)] := Bx.bad (Bx.drew XF.out) hba
            have ya0 := XFa.c 0 rfl
            have yaf := XFa.f
            refine hK.out _ _ (fun _ => ?_) (fun hS1 => ?_)
            · exact ⟨kbad hba (by omega) (hS0.1), kbad hba (by omega) (hS0.2.1), kbad hba (by omega) (hS0.2.2.1), kbad hba (by omega) (hS0.2.2.2.1), kbad hba (by omega) (hS0.2.2.2.2.1), kbad hba (by omega) (hS0.2.2.2.2.2.1), kbad hba (by omega) (hS0.2.2.2.2.2.2.1), kbad hba (by omega) (hS0.2.2.2.2.2.2.2.1), kbad hba (by omega) (hS0.2.2.2.2.2.2.2.2.1), kbad hba (by omega) (hS0.2.2.2.2.2.2.2.2.2.1), kbad hba (by omega) (hS0.2.2.2.2.2.2.2.2.2.2)⟩
            clear hK K
            have hS1 := hS1 (by decide)
            try simp only [Act.put, List.setIfInBounds_toArray, List.set_cons_zero, List.set_cons_succ]
            refine wpAnyX_one (i := 10) (o := _) rfl (by kernel_rfl) (fun K hK => ?_)
            go_simp
            refine (cmulO (x := x1) (y := m02.1) (z := (z1 || m02.2)) HK1.out HK02.out (by exact ya0) (by exact yaf 0)).mono ?_
            rintro ee wb ⟨rfl, hbb⟩
            have hzb := bad_size hbb
            have XFb : Bx wb gc 116 #[.bool (z1 || m02.2 || (mulS false x1 m02.1).2)] := Bx.bad XFa hbb
            have yb0 := XFb.c 0 rfl
            have ybf := XFb.f
            refine hK.out _ _ (fun _ => ?_) (fun hS2 => ?_)
            · exact ⟨kbad hbb (by omega) (hS1.1), kbad hbb (by omega) (hS1.2.1), kbad hbb (by omega) (hS1.2.2.1), kbad hbb (by omega) (hS1.2.2.2.1), kbad hbb (by omega) (hS1.2.2.2.2.1), kbad hbb (by omega) (hS1.2.2.2.2.2.1), kbad hbb (by omega) (hS1.2.2.2.2.2.2.1), kbad hbb (by omega) (hS1.2.2.2.2.2.2.2.1), kbad hbb (by omega) (hS1.2.2.2.2.2.2.2.2.1), kbad hbb (by omega) (hS1.2.2.2.2.2.2.2.2.2.1), kbad hbb (by omega) (hS1.2.2.2.2.2.2.2.2.2.2)⟩
            clear hK K
            have hS2 := hS2 (by decide)
            try simp only [Act.put, List.setIfInBounds_toArray, List.set_cons_zero, List.set_cons_succ]
            refine wpAnyX_one (i := 11) (o := _) rfl (by kernel_rfl) (fun K hK => ?_)
            go_simp
            refine (l2n5 (x := (mulS false x1 m02.1).1) (mulS_ok HK1.out HK02.out) _).mono ?_
            rintro ee wc ⟨rfl, hbc⟩
            have hzc := hbc.size
            have XFc : Bx wc gc 116 #[.bool (z1 || m02.2 || (mulS false x1 m02.1).2)] := XFb.mono hbc
            have yc0 := XFc.c 0 rfl
            have ycf := XFc.f
            refine hK.out _ _ (fun _ => ?_) (fun hS3 => ?_)
            · exact ⟨kc hbc (hS2.1), kc hbc (hS2.2.1), kc hbc (hS2.2.2.1), kc hbc (hS2.2.2.2.1), kc hbc (hS2.2.2.2.2.1), kc hbc (hS2.2.2.2.2.2.1), kc hbc (hS2.2.2.2.2.2.2.1), kc hbc (hS2.2.2.2.2.2.2.2.1), kc hbc (hS2.2.2.2.2.2.2.2.2.1), kc hbc (hS2.2.2.2.2.2.2.2.2.2.1), kc hbc (hS2.2.2.2.2.2.2.2.2.2.2)⟩
            clear hK K
            have hS3 := hS3 (by decide)
            try simp only [Act.put, List.setIfInBounds_toArray, List.set_cons_zero, List.set_cons_succ]
            refine wpAnyX_one (i := 12) (o := _) rfl (by kernel_rfl) (fun K hK => ?_)
            go_simp
            refine (caddO (x := d1) (y := (neg5 (mulS false x1 m02.1).1)) (z := (z1 || m02.2 || (mulS false x1 m02.1).2)) HKd1.out (neg5_ok (mulS_ok HK1.out HK02.out)) (by exact yc0) (by exact ycf 0)).mono ?_
            rintro ee wd ⟨rfl, hbd⟩
            have hzd := bad_size hbd
            have XFd : Bx wd gc 116 #[.bool (z1 || m02.2 || (mulS false x1 m02.1).2 || (addS false d1 (neg5 (mulS false x1 m02.1).1)).2)] := Bx.bad XFc hbd
            refine hK.out _ _ (fun _ => ?_) (fun hS4 => ?_)
            · exact ⟨kbad hbd (by omega) (hS3.1), kbad hbd (by omega) (hS3.2.1), kbad hbd (by omega) (hS3.2.2.1), kbad hbd (by omega) (hS3.2.2.2.1), kbad hbd (by omega) (hS3.2.2.2.2.1), kbad hbd (by omega) (hS3.2.2.2.2.2.1), kbad hbd (by omega) (hS3.2.2.2.2.2.2.1), kbad hbd (by omega) (hS3.2.2.2.2.2.2.2.1), kbad hbd (by omega) (hS3.2.2.2.2.2.2.2.2.1), kbad hbd (by omega) (hS3.2.2.2.2.2.2.2.2.2.1), kbad hbd (by omega) (hS3.2.2.2.2.2.2.2.2.2.2)⟩
            clear hK K
            have hS4 := hS4 (by decide)
            try simp only [Act.put, List.setIfInBounds_toArray, List.set_cons_zero, List.set_cons_succ]
            refine wpAnyX_one (i := 13) (o := _) rfl (by kernel_rfl) (fun K hK => ?_)
            have XR := (Bx.badly (Bx.mono (Bx.badly (Bx.badly (Bx.drew XD.out) hba (by omega)) hbb (by omega)) hbc) hbd (by omega))
            have r0 := XR.c 0 rfl
            have r1 := XR.c 1 rfl
            have r2 := XR.c 2 rfl
            have r3 := XR.c 3 rfl
            have r4 := XR.c 4 rfl
            have rf := XR.f
            go_simp
            refine hK.out _ _ (fun h => absurd rfl h) (fun _ => ?_)
            clear hK K
            try simp only [Act.put, List.setIfInBounds_toArray, List.set_cons_zero, List.set_cons_succ]
            refine wpAnyX_done (by kernel_rfl) ?_ _
            have hg8 : ∀ b, b < w11.heap.size → b ≠ gc → wd.heap[b]? = w11.heap[b]? := fun b hb hbc0 => (hbd.block b (by omega)).trans ((Below.heap_setCell _ _ _ _ (by dsimp only; exact hbc0)).trans ((hbc.block b (by omega)).trans ((hbb.block b (by omega)).trans ((Below.heap_setCell _ _ _ _ (by dsimp only; exact hbc0)).trans ((hba.block b (by (try simp only [World.size_drew]); omega)).trans (Below.heap_setCell _ _ _ _ (by dsimp only; exact hbc0)))))))
            have hBa := bad_below (w := w) (W := w11.drew) (Below.drew HB.out) hba (by omega)
            have hBb := bad_below hBa hbb (by omega)
            have hBc := chain hBb hbc hBb.size
            have hBd := bad_below hBc hbd (by omega)
            have hRA8 : Rd wd (some ⟨g0, 0, none⟩) xs := HRA.out.at_ (fun a ha => hg8 _ (hRl a ha) (by obtain rfl := Option.some.inj ha; dsimp only; omega))
            have hRZ8 : Rd wd Bo zs := HRZ.out.at_ (fun a ha => hg8 _ (hZl a ha) (by have h9 := (hne3 a ha).1; omega))
            go_wp2_with (fail)
            go_meet
            refine ⟨?_, ?_, ?_, ?_, ?_, ?_, ?_⟩
            · show Bx _ _ _ _
              exact Bx.far5 (addS false d1 (neg5 (mulS false x1 m02.1).1)).1 (Bx.badly (Bx.mono (Bx.badly (Bx.badly (Bx.drew XB.out) hba (by omega)) hbb (by omega)) hbc) hbd (by omega)) (by omega)
            · show Bx _ _ _ _
              exact Bx.far5 (addS false d1 (neg5 (mulS false x1 m02.1).1)).1 XFd (by omega)
            · show Bx _ _ _ _
              exact Bx.far5 (addS false d1 (neg5 (mulS false x1 m02.1).1)).1 (Bx.badly (Bx.mono (Bx.badly (Bx.badly (Bx.drew XX.out) hba (by omega)) hbb (by omega)) hbc) hbd (by omega)) (by omega)
            · show Rd _ _ _
              exact hRZ8.at_ (fun a ha => set5_far (by have h9 := hnd3 a ha; omega))
            · show Rd _ _ _
              exact hRA8.at_ (fun a ha => set5_far (by obtain rfl := Option.some.inj ha; dsimp only; omega))
            · show Bx _ _ _ _
              exact XR.set5 (addS false d1 (neg5 (mulS false x1 m02.1).1)).1
            · show Below _ _ _
              exact set5_below (x := (addS false d1 (neg5 (mulS false x1 m02.1).1)).1) hBd (by omega)
          case rest =>
            obtain ⟨w12, rfl⟩ : ∃ w12, w12 = wc := ⟨_, rfl⟩
            clear XB XF XX HRZ HRA HB XD xb p0 p1 p2 p3 p4 dd0 dd1 dd2 dd3 dd4 hRl hgl2 hZl xxl xfl xbl xdl
            obtain ⟨XB, XF, XX, HRZ, HRA, XD, HB⟩ := hcut
            obtain ⟨z2, hqz2⟩ : ∃ q, q = (z1 || m02.2 || (mulS false x1 m02.1).2 || (addS false d1 (neg5 (mulS false x1 m02.1).1)).2) := ⟨_, rfl⟩
            obtain ⟨d2, hqd2⟩ : ∃ q, q = (addS false d1 (neg5 (mulS false x1 m02.1).1)).1 := ⟨_, rfl⟩
            rw [← hqz2] at XF
            rw [← hqd2] at XD
            have HQz2 := hid hqz2
            have HQd2 := hid hqd2
            have HKd2 : Hid (d2.ok = true) := by show _ = _; rw [hqd2]; exact addS_ok HKd1.out (neg5_ok (mulS_ok HK1.out HK02.out))
            clear hqz2 hqd2
            have xb := XB.out.c 0 rfl
            obtain ⟨p0, p1, p2, p3, p4⟩ : Cx w12 g0 10 x2 := by rw [HE2.out]; exact HRA.out.at9 (i := 2) (by rw [HN.out]; decide)
            have dd0 := XD.out.c 0 rfl
            have dd1 := XD.out.c 1 rfl
            have dd2 := XD.out.c 2 rfl
            have dd3 := XD.out.c 3 rfl
            have dd4 := XD.out.c 4 rfl
            have hRl := HRA.out.ltA (by rw [HN.out]; decide)
            have hgl2 : g0 < w12.heap.size := hRl _ rfl
            have hZl := HRZ.out.ltA (by rw [HS.out.1]; decide)
            have xxl := XX.out.lt
            have xfl := XF.out.lt
            have xbl := XB.out.lt
            have xdl := XD.out.lt
            go_wp2_with (fail)
            go_cut [] (fun wx => Hid (Bx wx w.heap.size 51 #[.slice (some ⟨g0, 0, none⟩) 9 cp]) ∧ Hid (Bx wx gc 116 #[.bool (z2 || m01.2 || (mulS false x2 m01.1).2 || (addS false d2 (mulS false x2 m01.1).1).2)]) ∧ Hid (Bx wx gx 51 #[.slice Bo 9 cq]) ∧ Hid (Rd wx Bo zs) ∧ Hid (Rd wx (some ⟨g0, 0, none⟩) xs) ∧ Hid (Bx wx gd 99 #[.int .i64 (addS false d2 (mulS false x2 m01.1).1).1.a, .int .i64 (addS false d2 (mulS false x2 m01.1).1).1.b, .int .i64 (addS false d2 (mulS false x2 m01.1).1).1.c, .int .i64 (addS false d2 (mulS false x2 m01.1).1).1.d, .int .i64 (addS false d2 (mulS false x2 m01.1).1).1.e]) ∧ Hid (Below w.heap.size w wx))
            case first =>
              have yxb : w12.drew.cell? ⟨w.heap.size, 0, none⟩ = some (.slice (some ⟨g0, 0, none⟩) 9 cp) := xb
              have yp0 : w12.drew.cell? ⟨g0, 10, none⟩ = some (.int .i64 x2.a) := p0
              have yp1 : w12.drew.cell? ⟨g0, 10 + 1, none⟩ = some (.int .i64 x2.b) := p1
              have yp2 : w12.drew.cell? ⟨g0, 10 + 2, none⟩ = some (.int .i64 x2.c) := p2
              have yp3 : w12.drew.cell? ⟨g0, 10 + 3, none⟩ = some (.int .i64 x2.d) := p3
              have yp4 : w12.drew.cell? ⟨g0, 10 + 4, none⟩ = some (.int .i64 x2.e) := p4
              have ydd0 : w12.drew.cell? ⟨gd, 0, none⟩ = some (.int .i64 d2.a) := dd0
              have ydd1 : w12.drew.cell? ⟨gd, 1, none⟩ = some (.int .i64 d2.b) := dd1
              have ydd2 : w12.drew.cell? ⟨gd, 2, none⟩ = some (.int .i64 d2.c) := dd2
              have ydd3 : w12.drew.cell? ⟨gd, 3, none⟩ = some (.int .i64 d2.d) := dd3
              have ydd4 : w12.drew.cell? ⟨gd, 4, none⟩ = some (.int .i64 d2.e) := dd4
              refine wp_region_x (fun w' => w'.cell? ⟨w.heap.size, 0, none⟩ = some (.slice (some ⟨g0, 0, none⟩) 9 cp) ∧ w'.cell? ⟨g0, 10, none⟩ = some (.int .i64 x2.a) ∧ w'.cell? ⟨g0, 10 + 1, none⟩ = some (.int .i64 x2.b) ∧ w'.cell? ⟨g0, 10 + 2, none⟩ = some (.int .i64 x2.c) ∧ w'.cell? ⟨g0, 10 + 3, none⟩ = some (.int .i64 x2.d) ∧ w'.cell? ⟨g0, 10 + 4, none⟩ = some (.int .i64 x2.e) ∧ w'.cell? ⟨gd, 0, none⟩ = some (.int .i64 d2.a) ∧ w'.cell? ⟨gd, 1, none⟩ = some (.int .i64 d2.b) ∧ w'.cell? ⟨gd, 2, none⟩ = some (.int .i64 d2.c) ∧ w'.cell? ⟨gd, 3, none⟩ = some (.int .i64 d2.d) ∧ w'.cell? ⟨gd, 4, none⟩ = some (.int .i64 d2.e)) 12 (by kernel_rfl) ⟨yxb, yp0, yp1, yp2, yp3, yp4, ydd0, ydd1, ydd2, ydd3, ydd4⟩ (fun hS0 => ?_)
              refine wpAnyX_take (i := 0) (oi := _) (v := ?_) rfl (by kernel_rfl) (by kernel_rfl) (by kernel_rfl) (by kernel_rfl) (fun _ _ _ h => h) (Or.inl ⟨by rfl, ?_⟩) hS0 ?_
              rotate_left 1
              · (intro w hSw; (try dsimp only at hSw); go_simp; (try with_reducible rfl))
              try simp only [Act.put, List.setIfInBounds_toArray, List.set_cons_zero, List.set_cons_succ]
              refine wpAnyX_take (i := 1) (oi := _) (v := ?_) rfl (by kernel_rfl) (by kernel_rfl) (by kernel_rfl) (by kernel_rfl) (fun _ _ _ h => h) (Or.inl ⟨by rfl, ?_⟩) hS0 ?_
              rotate_left 1
              · (intro w hSw; (try dsimp only at hSw); go_simp; (try with_reducible rfl))
              try simp only [Act.put, List.setIfInBounds_toArray, List.set_cons_zero, List.set_cons_succ]
              refine wpAnyX_take (i := 2) (oi := _) (v := ?_) rfl (by kernel_rfl) (by kernel_rfl) (by kernel_rfl) (by kernel_rfl) (fun _ _ _ h => h) (Or.inl ⟨by rfl, ?_⟩) hS0 ?_
              rotate_left 1
              · (intro w hSw; (try dsimp only at hSw); go_simp; (try with_reducible rfl))
              try simp only [Act.put, List.setIfInBounds_toArray, List.set_cons_zero, List.set_cons_succ]
              refine wpAnyX_take (i := 3) (oi := _) (v := ?_) rfl (by kernel_rfl) (by kernel_rfl) (by kernel_rfl) (by kernel_rfl) (fun _ _ _ h => h) (Or.inl ⟨by rfl, ?_⟩) hS0 ?_
              rotate_left 1
              · (intro w hSw; (try dsimp only at hSw); go_simp; (try with_reducible rfl))
              try simp only [Act.put, List.setIfInBounds_toArray, List.set_cons_zero, List.set_cons_succ]
              refine wpAnyX_take (i := 4) (oi := _) (v := ?_) rfl (by kernel_rfl) (by kernel_rfl) (by kernel_rfl) (by kernel_rfl) (fun _ _ _ h => h) (Or.inl ⟨by rfl, ?_⟩) hS0 ?_
              rotate_left 1
              · (intro w hSw; (try dsimp only at hSw); go_simp; (try with_reducible rfl))
              try simp only [Act.put, List.setIfInBounds_toArray, List.set_cons_zero, List.set_cons_succ]
              refine wpAnyX_take (i := 5) (oi := _) (v := ?_) rfl (by kernel_rfl) (by kernel_rfl) (by kernel_rfl) (by kernel_rfl) (fun _ _ _ h => h) (Or.inl ⟨by rfl, ?_⟩) hS0 ?_
              rotate_left 1
              · (intro w hSw; (try dsimp only at hSw); go_simp; (try with_reducible rfl))
              try simp only [Act.put, List.setIfInBounds_toArray, List.set_cons_zero, List.set_cons_succ]
              refine wpAnyX_take (i := 6) (oi := _) (v := ?_) rfl (by kernel_rfl) (by kernel_rfl) (by kernel_rfl) (by kernel_rfl) (fun _ _ _ h => h) (Or.inl ⟨by rfl, ?_⟩) hS0 ?_
              rotate_left 1
              · (intro w hSw; (try dsimp only at hSw); go_simp; (try with_reducible rfl))
              try simp only [Act.put, List.setIfInBounds_toArray, List.set_cons_zero, List.set_cons_succ]
              refine wpAnyX_take (i := 7) (oi := _) (v := ?_) rfl (by kernel_rfl) (by kernel_rfl) (by kernel_rfl) (by kernel_rfl) (fun _ _ _ h => h) (Or.inl ⟨by rfl, ?_⟩) hS0 ?_
              rotate_left 1
              · (intro w hSw; (try dsimp only at hSw); go_simp; (try with_reducible rfl))
              try simp only [Act.put, List.setIfInBounds_toArray, List.set_cons_zero, List.set_cons_succ]
              refine wpAnyX_take (i := 8) (oi := _) (v := ?_) rfl (by kernel_rfl) (by kernel_rfl) (by kernel_rfl) (by kernel_rfl) (fun _ _ _ h => h) (Or.inl ⟨by rfl, ?_⟩) hS0 ?_
              rotate_left 1
              · (intro w hSw; (try dsimp only at hSw); go_simp; (try with_reducible rfl))
              try simp only [Act.put, List.setIfInBounds_toArray, List.set_cons_zero, List.set_cons_succ]
              refine wpAnyX_one (i := 9) (o := _) rfl (by kernel_rfl) (fun K hK => ?_)
              go_simp
              refine (mnr_t01 (gc := gc) (xs := xs) (z := z2) (m := m01) ?_ HN.out (allR_B HR.out) ?_ (by omega) HM01.out).mono ?_
              · exact HRA.out.mono (by (repeat' (first | (with_reducible exact Below.refl _ _) | (with_reducible assumption) | (with_reducible refine Below.alloc ?_ ?_ _) | (with_reducible refine Below.drew ?_) | (with_reducible refine below_drewN ?_ _) | (with_reducible refine Below.setCell ?_ ?_ _) | (with_reducible refine chain ?_ (by assumption) ?_) | omega | (simp; done) | (simp; omega))))
              · exact Bx.drew XF.out
              rintro ee wa ⟨rfl, hba⟩
              have hza := bad_size hba
              (try simp only [World.size_drew] at hza)
              have XFa : Bx wa gc 116 #[.bool (z2 || m01.2)] := Bx.bad (Bx.drew XF.out) hba
              have ya0 := XFa.c 0 rfl
              have yaf := XFa.f
              refine hK.out _ _ (fun _ => ?_) (fun hS1 => ?_)
              · exact ⟨kbad hba (by omega) (hS0.1), kbad hba (by omega) (hS0.2.1), kbad hba (by omega) (hS0.2.2.1), kbad hba (by omega) (hS0.2.2.2.1), kbad hba (by omega) (hS0.2.2.2.2.1), kbad hba (by omega) (hS0.2.2.2.2.2.1), kbad hba (by omega) (hS0.2.2.2.2.2.2.1), kbad hba (by omega) (hS0.2.2.2.2.2.2.2.1), kbad hba (by omega) (hS0.2.2.2.2.2.2.2.2.1), kbad hba (by omega) (hS0.2.2.2.2.2.2.2.2.2.1), kbad hba (by omega) (hS0.2.2.2.2.2.2.2.2.2.2)⟩
              clear hK K
              have hS1 := hS1 (by decide)
              try simp only [Act.put, List.setIfInBounds_toArray, List.set_cons_zero, List.set_cons_succ]
              refine wpAnyX_one (i := 10) (o := _) rfl (by kernel_rfl) (fun K hK => ?_)
              go_simp
              refine (cmulO (x := x2) (y := m01.1) (z := (z2 || m01.2)) HK2.out HK01.out (by exact ya0) (by exact yaf 0)).mono ?_
              rintro ee wb ⟨rfl, hbb⟩
              have hzb := bad_size hbb
              have XFb : Bx wb gc 116 #[.bool (z2 || m01.2 || (mulS false x2 m01.1).2)] := Bx.bad XFa hbb
              have yb0 := XFb.c 0 rfl
              have ybf := XFb.f
              refine hK.out _ _ (fun _ => ?_) (fun hS2 => ?_)
              · exact ⟨kbad hbb (by omega) (hS1.1), kbad hbb (by omega) (hS1.2.1), kbad hbb (by omega) (hS1.2.2.1), kbad hbb (by omega) (hS1.2.2.2.1), kbad hbb (by omega) (hS1.2.2.2.2.1), kbad hbb (by omega) (hS1.2.2.2.2.2.1), kbad hbb (by omega) (hS1.2.2.2.2.2.2.1), kbad hbb (by omega) (hS1.2.2.2.2.2.2.2.1), kbad hbb (by omega) (hS1.2.2.2.2.2.2.2.2.1), kbad hbb (by omega) (hS1.2.2.2.2.2.2.2.2.2.1), kbad hbb (by omega) (hS1.2.2.2.2.2.2.2.2.2.2)⟩
              clear hK K
              have hS2 := hS2 (by decide)
              try simp only [Act.put, List.setIfInBounds_toArray, List.set_cons_zero, List.set_cons_succ]
              refine wpAnyX_one (i := 11) (o := _) rfl (by kernel_rfl) (fun K hK => ?_)
              go_simp
              refine (caddO (x := d2) (y := (mulS false x2 m01.1).1) (z := (z2 || m01.2 || (mulS false x2 m01.1).2)) HKd2.out (mulS_ok HK2.out HK01.out) (by exact yb0) (by exact ybf 0)).mono ?_
              rintro ee wd ⟨rfl, hbd⟩
              have hzd := bad_size hbd
              have XFd : Bx wd gc 116 #[.bool (z2 || m01.2 || (mulS false x2 m01.1).2 || (addS false d2 (mulS false x2 m01.1).1).2)] := Bx.bad XFb hbd
              refine hK.out _ _ (fun _ => ?_) (fun hS3 => ?_)
              · exact ⟨kbad hbd (by omega) (hS2.1), kbad hbd (by omega) (hS2.2.1), kbad hbd (by omega) (hS2.2.2.1), kbad hbd (by omega) (hS2.2.2.2.1), kbad hbd (by omega) (hS2.2.2.2.2.1), kbad hbd (by omega) (hS2.2.2.2.2.2.1), kbad hbd (by omega) (hS2.2.2.2.2.2.2.1), kbad hbd (by omega) (hS2.2.2.2.2.2.2.2.1), kbad hbd (by omega) (hS2.2.2.2.2.2.2.2.2.1), kbad hbd (by omega) (hS2.2.2.2.2.2.2.2.2.2.1), kbad hbd (by omega) (hS2.2.2.2.2.2.2.2.2.2.2)⟩
              clear hK K
              have hS3 := hS3 (by decide)
              try simp only [Act.put, List.setIfInBounds_toArray, List.set_cons_zero, List.set_cons_succ]
              refine wpAnyX_one (i := 12) (o := _) rfl (by kernel_rfl) (fun K hK => ?_)
              have XR := (Bx.badly (Bx.badly (Bx.badly (Bx.drew XD.out) hba (by omega)) hbb (by omega)) hbd (by omega))
              have r0 := XR.c 0 rfl
              have r1 := XR.c 1 rfl
              have r2 := XR.c 2 rfl
              have r3 := XR.c 3 rfl
              have r4 := XR.c 4 rfl
              have rf := XR.f
              go_simp
              refine hK.out _ _ (fun h => absurd rfl h) (fun _ => ?_)
              clear hK K
              try simp only [Act.put, List.setIfInBounds_toArray, List.set_cons_zero, List.set_cons_succ]
              refine wpAnyX_done (by kernel_rfl) ?_ _
              have hg8 : ∀ b, b < w12.heap.size → b ≠ gc → wd.heap[b]? = w12.heap[b]? := fun b hb hbc0 => (hbd.block b (by omega)).trans ((Below.heap_setCell _ _ _ _ (by dsimp only; exact hbc0)).trans (((hbb.block b (by omega)).trans ((Below.heap_setCell _ _ _ _ (by dsimp only; exact hbc0)).trans ((hba.block b (by (try simp only [World.size_drew]); omega)).trans (Below.heap_setCell _ _ _ _ (by dsimp only; exact hbc0)))))))
              have hBa := bad_below (w := w) (W := w12.drew) (Below.drew HB.out) hba (by omega)
              have hBb := bad_below hBa hbb (by omega)
              have hBd := bad_below hBb hbd (by omega)
              have hRA8 : Rd wd (some ⟨g0, 0, none⟩) xs := HRA.out.at_ (fun a ha => hg8 _ (hRl a ha) (by obtain rfl := Option.some.inj ha; dsimp only; omega))
              have hRZ8 : Rd wd Bo zs := HRZ.out.at_ (fun a ha => hg8 _ (hZl a ha) (by have h9 := (hne3 a ha).1; omega))
              go_wp2_with (fail)
              go_meet
              refine ⟨?_, ?_, ?_, ?_, ?_, ?_, ?_⟩
              · show Bx _ _ _ _
                exact Bx.far5 (addS false d2 (mulS false x2 m01.1).1).1 (Bx.badly (Bx.badly (Bx.badly (Bx.drew XB.out) hba (by omega)) hbb (by omega)) hbd (by omega)) (by omega)
              · show Bx _ _ _ _
                exact Bx.far5 (addS false d2 (mulS false x2 m01.1).1).1 XFd (by omega)
              · show Bx _ _ _ _
                exact Bx.far5 (addS false d2 (mulS false x2 m01.1).1).1 (Bx.badly (Bx.badly (Bx.badly (Bx.drew XX.out) hba (by omega)) hbb (by omega)) hbd (by omega)) (by omega)
              · show Rd _ _ _
                exact hRZ8.at_ (fun a ha => set5_far (by have h9 := hnd3 a ha; omega))
              · show Rd _ _ _
                exact hRA8.at_ (fun a ha => set5_far (by obtain rfl := Option.some.inj ha; dsimp only; omega))
              · show Bx _ _ _ _
                exact XR.set5 (addS false d2 (mulS false x2 m01.1).1).1
              · show Below _ _ _
                exact set5_below (x := (addS false d2 (mulS false x2 m01.1).1).1) hBd (by omega)
            case rest =>
              obtain ⟨w13, rfl⟩ : ∃ w13, w13 = wc := ⟨_, rfl⟩
              clear XB XF XX HRZ HRA HB XD xb p0 p1 p2 p3 p4 dd0 dd1 dd2 dd3 dd4 hRl hgl2 hZl xxl xfl xbl xdl
              obtain ⟨XB, XF, XX, HRZ, HRA, XD, HB⟩ := hcut
              obtain ⟨z3, hqz3⟩ : ∃ q, q = (z2 || m01.2 || (mulS false x2 m01.1).2 || (addS false d2 (mulS false x2 m01.1).1).2) := ⟨_, rfl⟩
              obtain ⟨d3, hqd3⟩ : ∃ q, q = (addS false d2 (mulS false x2 m01.1).1).1 := ⟨_, rfl⟩
              rw [← hqz3] at XF
              rw [← hqd3] at XD
              have HQz3 := hid hqz3
              have HQd3 := hid hqd3
              have HKd3 : Hid (d3.ok = true) := by show _ = _; rw [hqd3]; exact addS_ok HKd2.out (mulS_ok HK2.out HK01.out)
              clear hqz3 hqd3
              have hfin : okBl 9 xs = (!z3 && (eqL zs (tab 9 (unitP 3 3)) && d3.beq one5)) := by
                rw [okBl_fin HN.out HR.out HS.out]
                have e1 : detZ (fun i => xs.getD i z5) = (m12.2 || (mulS false x0 m12.1).2 || m02.2 || (mulS false x1 m02.1).2 || (addS false d1 (neg5 (mulS false x1 m02.1).1)).2 || m01.2 || (mulS false x2 m01.1).2 || (addS false d2 (mulS false x2 m01.1).1).2) := by
                  unfold detZ detV2 detV1 detP
                  rw [HM12.out, HM02.out, HM01.out]
                  dsimp only
                  rw [← HE0.out, ← HE1.out, ← HE2.out, ← HQd1.out, ← HQd2.out]
                have e2 : (detV2 (fun i => xs.getD i z5)).1 = d3 := by
                  unfold detV2 detV1 detP
                  rw [HM12.out, HM02.out, HM01.out]
                  dsimp only
                  rw [← HE0.out, ← HE1.out, ← HE2.out, ← HQd1.out, ← HQd2.out, ← HQd3.out]
                have e3 : (z || detZ (fun i => xs.getD i z5)) = z3 := by
                  rw [HQz3.out, HQz2.out, HQz1.out, e1]
                  simp only [Bool.or_assoc]
                rw [e3, e2]
              have HFIN := hid hfin
              clear hfin
              have xf0 := XF.out.c 0 rfl
              have xff := XF.out.f
              have xx0 := XX.out.c 0 rfl
              have d0q := XD.out.c 0 rfl
              have d1q := XD.out.c 1 rfl
              have d2q := XD.out.c 2 rfl
              have d3q := XD.out.c 3 rfl
              have d4q := XD.out.c 4 rfl
              have hBq := HB.out.size
              have hB13 : Below w.heap.size w w13 := HB.out
              cases z3
              · obtain ⟨e, he⟩ : ∃ e, eqL zs (tab 9 (unitP 3 3)) = e := ⟨_, rfl⟩
                have HEE := hid he
                clear he
                cases e
                · have HFE : Hid (okBl 9 xs = false) := by show _ = _; rw [HFIN.out, HEE.out]; rfl
                  go_wp2_with (fail)
                  have yxf0 : w13.drew.cell? ⟨gc, 0, none⟩ = some (.bool false) := xf0
                  have yxx0 : w13.drew.cell? ⟨gx, 0, none⟩ = some (.slice Bo 9 cq) := xx0
                  have yd0q : w13.drew.cell? ⟨gd, 0, none⟩ = some (.int .i64 d3.a) := d0q
                  have yd1q : w13.drew.cell? ⟨gd, 1, none⟩ = some (.int .i64 d3.b) := d1q
                  have yd2q : w13.drew.cell? ⟨gd, 2, none⟩ = some (.int .i64 d3.c) := d2q
                  have yd3q : w13.drew.cell? ⟨gd, 3, none⟩ = some (.int .i64 d3.d) := d3q
                  have yd4q : w13.drew.cell? ⟨gd, 4, none⟩ = some (.int .i64 d3.e) := d4q
                  refine wp_region_x (fun w' => w'.cell? ⟨gc, 0, none⟩ = some (.bool false) ∧ w'.cell? ⟨gx, 0, none⟩ = some (.slice Bo 9 cq) ∧ w'.cell? ⟨gd, 0, none⟩ = some (.int .i64 d3.a) ∧ w'.cell? ⟨gd, 1, none⟩ = some (.int .i64 d3.b) ∧ w'.cell? ⟨gd, 2, none⟩ = some (.int .i64 d3.c) ∧ w'.cell? ⟨gd, 3, none⟩ = some (.int .i64 d3.d) ∧ w'.cell? ⟨gd, 4, none⟩ = some (.int .i64 d3.e)) 1000 (by kernel_rfl) ⟨yxf0, yxx0, yd0q, yd1q, yd2q, yd3q, yd4q⟩ (fun hS0 => ?_)
                  refine wpAnyX_take (i := 0) (oi := _) (v := ?_) rfl (by kernel_rfl) (by kernel_rfl) (by kernel_rfl) (by kernel_rfl) (fun _ _ _ h => h) (Or.inl ⟨by rfl, ?_⟩) hS0 ?_
                  rotate_left 1
                  · (intro w hSw; (try dsimp only at hSw); go_simp; (try with_reducible rfl))
                  change wpAnyX _ _ _ _ _ _ _ _ (Act.put _ (some 80) _) _
                  try simp only [Act.put, List.setIfInBounds_toArray, List.set_cons_zero, List.set_cons_succ]
                  refine wpAnyX_take (i := 1) (oi := _) (v := ?_) rfl (by kernel_rfl) (by kernel_rfl) (by kernel_rfl) (by kernel_rfl) (fun _ _ _ h => h) (Or.inl ⟨by rfl, ?_⟩) hS0 ?_
                  rotate_left 1
                  · (intro w hSw; (try dsimp only at hSw); go_simp; (try with_reducible rfl))
                  change wpAnyX _ _ _ _ _ _ _ _ (Act.put _ (some 81) _) _
                  try simp only [Act.put, List.setIfInBounds_toArray, List.set_cons_zero, List.set_cons_succ]
                  refine wpAnyX_take (i := 2) (oi := _) (v := ?_) rfl (by kernel_rfl) (by kernel_rfl) (by kernel_rfl) (by kernel_rfl) (fun _ _ _ h => h) (Or.inl ⟨by rfl, ?_⟩) hS0 ?_
                  rotate_left 1
                  · (intro w hSw; (try dsimp only at hSw); go_simp; (try with_reducible rfl))
                  change wpAnyX _ _ _ _ _ _ _ _ (Act.put _ (some 82) _) _
                  try simp only [Act.put, List.setIfInBounds_toArray, List.set_cons_zero, List.set_cons_succ]
                  refine wpAnyX_take (i := 3) (oi := _) (v := ?_) rfl (by kernel_rfl) (by kernel_rfl) (by kernel_rfl) (by kernel_rfl) (fun _ _ _ h => h) (Or.inl ⟨by rfl, ?_⟩) hS0 ?_
                  rotate_left 1
                  · (intro w hSw; (try dsimp only at hSw); go_simp; (try with_reducible rfl))
                  change wpAnyX _ _ _ _ _ _ _ _ (Act.put _ (some 83) _) _
                  try simp only [Act.put, List.setIfInBounds_toArray, List.set_cons_zero, List.set_cons_succ]
                  refine wpAnyX_take (i := 4) (oi := _) (v := ?_) rfl (by kernel_rfl) (by kernel_rfl) (by kernel_rfl) (by kernel_rfl) (fun _ _ _ h => h) (Or.inl ⟨by rfl, ?_⟩) hS0 ?_
                  rotate_left 1
                  · (intro w hSw; (try dsimp only at hSw); go_simp; (try with_reducible rfl))
                  change wpAnyX _ _ _ _ _ _ _ _ (Act.put _ (some 84) _) _
                  try simp only [Act.put, List.setIfInBounds_toArray, List.set_cons_zero, List.set_cons_succ]
                  refine wpAnyX_take (i := 5) (oi := _) (v := ?_) rfl (by kernel_rfl) (by kernel_rfl) (by kernel_rfl) (by kernel_rfl) (fun _ _ _ h => h) (Or.inl ⟨by rfl, ?_⟩) hS0 ?_
                  rotate_left 1
                  · (intro w hSw; (try dsimp only at hSw); go_simp; (try with_reducible rfl))
                  change wpAnyX _ _ _ _ _ _ _ _ (Act.put _ (some 85) _) _
                  try simp only [Act.put, List.setIfInBounds_toArray, List.set_cons_zero, List.set_cons_succ]
                  refine wpAnyX_take (i := 6) (oi := _) (v := ?_) rfl (by kernel_rfl) (by kernel_rfl) (by kernel_rfl) (by kernel_rfl) (fun _ _ _ h => h) (Or.inl ⟨by rfl, ?_⟩) hS0 ?_
                  rotate_left 1
                  · (intro w hSw; (try dsimp only at hSw); go_simp; (try with_reducible rfl))
                  change wpAnyX _ _ _ _ _ _ _ _ (Act.put _ (some 86) _) _
                  try simp only [Act.put, List.setIfInBounds_toArray, List.set_cons_zero, List.set_cons_succ]
                  refine wpAnyX_one (i := 7) (o := _) rfl (by kernel_rfl) (fun K hK => ?_)
                  go_simp
                  refine un9_s.mono ?_
                  rintro ee v0 ⟨rfl, hU, hv0⟩
                  have HU := hid hU.rd
                  clear hU
                  have hq0 := hv0.size
                  (try simp only [World.size_drew] at hq0)
                  refine hK.out _ _ (fun _ => ?_) (fun hS1 => ?_)
                  · exact ⟨kc hv0 (hS0.1), kc hv0 (hS0.2.1), kc hv0 (hS0.2.2.1), kc hv0 (hS0.2.2.2.1), kc hv0 (hS0.2.2.2.2.1), kc hv0 (hS0.2.2.2.2.2.1), kc hv0 (hS0.2.2.2.2.2.2)⟩
                  clear hK K
                  have hS1 := hS1 (by decide)
                  try simp only [Act.put, List.setIfInBounds_toArray, List.set_cons_zero, List.set_cons_succ]
                  refine wpAnyX_one (i := 8) (o := _) rfl (by kernel_rfl) (fun K hK => ?_)
                  go_simp
                  refine (sm_t (xs := zs) (ys := tab 9 (unitP 3 3)) ?_ ?_ HS.out.1 (tab_len _ _) (by decide) HEE.out).mono ?_
                  · exact HRZ.out.mono (by (repeat' (first | (with_reducible exact Below.refl _ _) | (with_reducible assumption) | (with_reducible refine Below.alloc ?_ ?_ _) | (with_reducible refine Below.drew ?_) | (with_reducible refine below_drewN ?_ _) | (with_reducible refine Below.setCell ?_ ?_ _) | (with_reducible refine chain ?_ (by assumption) ?_) | omega | (simp; done) | (simp; omega))))
                  · exact HU.out
                  rintro ee v1 ⟨rfl, hv1⟩
                  have hq1 := hv1.size
                  refine hK.out _ _ (fun _ => ?_) (fun hS2 => ?_)
                  · exact ⟨kc hv1 (hS1.1), kc hv1 (hS1.2.1), kc hv1 (hS1.2.2.1), kc hv1 (hS1.2.2.2.1), kc hv1 (hS1.2.2.2.2.1), kc hv1 (hS1.2.2.2.2.2.1), kc hv1 (hS1.2.2.2.2.2.2)⟩
                  clear hK K
                  have hS2 := hS2 (by decide)
                  try simp only [Act.put, List.setIfInBounds_toArray, List.set_cons_zero, List.set_cons_succ]
                  refine wpAnyX_take (i := 9) (oi := _) (v := ?_) rfl (by kernel_rfl) (by kernel_rfl) (by kernel_rfl) (by kernel_rfl) (fun _ _ _ h => h) (Or.inl ⟨by rfl, ?_⟩) hS2 ?_
                  rotate_left 1
                  · (intro w hSw; (try dsimp only at hSw); go_simp; (try with_reducible rfl))
                  change wpAnyX _ _ _ _ _ _ _ _ (Act.put _ (some 89) _) _
                  try simp only [Act.put, List.setIfInBounds_toArray, List.set_cons_zero, List.set_cons_succ]
                  refine wpAnyX_take (i := 10) (oi := _) (v := ?_) rfl (by kernel_rfl) (by kernel_rfl) (by kernel_rfl) (by kernel_rfl) (fun _ _ _ h => h) (Or.inl ⟨by rfl, ?_⟩) hS2 ?_
                  rotate_left 1
                  · (intro w hSw; (try dsimp only at hSw); go_simp; (try with_reducible rfl))
                  change wpAnyX _ _ _ _ _ _ _ _ (Act.put _ (some 90) _) _
                  try simp only [Act.put, List.setIfInBounds_toArray, List.set_cons_zero, List.set_cons_succ]
                  refine wpAnyX_take (i := 11) (oi := _) (v := undef) rfl (by kernel_rfl) (by kernel_rfl) (by kernel_rfl) (by kernel_rfl) (fun _ _ _ h => h) (Or.inr ⟨by rfl, rfl⟩) hS2 ?_
                  change wpAnyX _ _ _ _ _ _ _ _ (Act.put _ (some 91) _) _
                  try simp only [Act.put, List.setIfInBounds_toArray, List.set_cons_zero, List.set_cons_succ]
                  refine wpAnyX_take (i := 12) (oi := _) (v := undef) rfl (by kernel_rfl) (by kernel_rfl) (by kernel_rfl) (by kernel_rfl) (fun _ _ _ h => h) (Or.inr ⟨by rfl, rfl⟩) hS2 ?_
                  change wpAnyX _ _ _ _ _ _ _ _ (Act.put _ (some 92) _) _
                  try simp only [Act.put, List.setIfInBounds_toArray, List.set_cons_zero, List.set_cons_succ]
                  refine wpAnyX_take (i := 13) (oi := _) (v := undef) rfl (by kernel_rfl) (by kernel_rfl) (by kernel_rfl) (by kernel_rfl) (fun _ _ _ h => h) (Or.inr ⟨by rfl, rfl⟩) hS2 ?_
                  change wpAnyX _ _ _ _ _ _ _ _ (Act.put _ (some 93) _) _
                  try simp only [Act.put, List.setIfInBounds_toArray, List.set_cons_zero, List.set_cons_succ]
                  refine wpAnyX_take (i := 14) (oi := _) (v := ?_) rfl (by kernel_rfl) (by kernel_rfl) (by kernel_rfl) (by kernel_rfl) (fun _ _ _ h => h) (Or.inl ⟨by rfl, ?_⟩) hS2 ?_
                  rotate_left 1
                  · (intro w hSw; (try dsimp only at hSw); go_simp; (try with_reducible rfl))
                  change wpAnyX _ _ _ _ _ _ _ _ (Act.put _ (some 94) _) _
                  try simp only [Act.put, List.setIfInBounds_toArray, List.set_cons_zero, List.set_cons_succ]
                  refine wpAnyX_take (i := 15) (oi := _) (v := ?_) rfl (by kernel_rfl) (by kernel_rfl) (by kernel_rfl) (by kernel_rfl) (fun _ _ _ h => h) (Or.inl ⟨by rfl, ?_⟩) hS2 ?_
                  rotate_left 1
                  · (intro w hSw; (try dsimp only at hSw); go_simp; (try with_reducible rfl))
                  change wpAnyX _ _ _ _ _ _ _ _ (Act.put _ (some 2) _) _
                  try simp only [Act.put, List.setIfInBounds_toArray, List.set_cons_zero, List.set_cons_succ]
                  refine wpAnyX_done (by kernel_rfl) ?_ _
                  go_wp2_with (fail)
                  go_ret
                  refine ⟨by rw [HFE.out]; rfl, ?_⟩
                  (repeat' (first | (with_reducible exact Below.refl _ _) | (with_reducible assumption) | (with_reducible refine Below.alloc ?_ ?_ _) | (with_reducible refine Below.drew ?_) | (with_reducible refine below_drewN ?_ _) | (with_reducible refine Below.setCell ?_ ?_ _) | (with_reducible refine chain ?_ (by assumption) ?_) | omega | (simp; done) | (simp; omega)))
                · by_cases hd : d3 = one5
                  · have hbe : d3.beq one5 = true := beq_iff5.2 hd
                    have HFE : Hid (okBl 9 xs = true) := by show _ = _; rw [HFIN.out, HEE.out, hbe]; rfl
                    have HD9 : Hid (d3.a = one5.a ∧ d3.b = one5.b ∧ d3.c = one5.c ∧ d3.d = one5.d ∧ d3.e = one5.e) := by show _ ∧ _; rw [hd]; exact ⟨rfl, rfl, rfl, rfl, rfl⟩
                    clear hbe hd
                    go_wp2_with (fail)
                    have yxf0 : w13.drew.cell? ⟨gc, 0, none⟩ = some (.bool false) := xf0
                    have yxx0 : w13.drew.cell? ⟨gx, 0, none⟩ = some (.slice Bo 9 cq) := xx0
                    have yd0q : w13.drew.cell? ⟨gd, 0, none⟩ = some (.int .i64 d3.a) := d0q
                    have yd1q : w13.drew.cell? ⟨gd, 1, none⟩ = some (.int .i64 d3.b) := d1q
                    have yd2q : w13.drew.cell? ⟨gd, 2, none⟩ = some (.int .i64 d3.c) := d2q
                    have yd3q : w13.drew.cell? ⟨gd, 3, none⟩ = some (.int .i64 d3.d) := d3q
                    have yd4q : w13.drew.cell? ⟨gd, 4, none⟩ = some (.int .i64 d3.e) := d4q
                    refine wp_region_x (fun w' => w'.cell? ⟨gc, 0, none⟩ = some (.bool false) ∧ w'.cell? ⟨gx, 0, none⟩ = some (.slice Bo 9 cq) ∧ w'.cell? ⟨gd, 0, none⟩ = some (.int .i64 d3.a) ∧ w'.cell? ⟨gd, 1, none⟩ = some (.int .i64 d3.b) ∧ w'.cell? ⟨gd, 2, none⟩ = some (.int .i64 d3.c) ∧ w'.cell? ⟨gd, 3, none⟩ = some (.int .i64 d3.d) ∧ w'.cell? ⟨gd, 4, none⟩ = some (.int .i64 d3.e)) 1000 (by kernel_rfl) ⟨yxf0, yxx0, yd0q, yd1q, yd2q, yd3q, yd4q⟩ (fun hS0 => ?_)
                    refine wpAnyX_take (i := 0) (oi := _) (v := ?_) rfl (by kernel_rfl) (by kernel_rfl) (by kernel_rfl) (by kernel_rfl) (fun _ _ _ h => h) (Or.inl ⟨by rfl, ?_⟩) hS0 ?_
                    rotate_left 1
                    · (intro w hSw; (try dsimp only at hSw); go_simp; (try with_reducible rfl))
                    change wpAnyX _ _ _ _ _ _ _ _ (Act.put _ (some 80) _) _
                    try simp only [Act.put, List.setIfInBounds_toArray, List.set_cons_zero, List.set_cons_succ]
                    refine wpAnyX_take (i := 1) (oi := _) (v := ?_) rfl (by kernel_rfl) (by kernel_rfl) (by kernel_rfl) (by kernel_rfl) (fun _ _ _ h => h) (Or.inl ⟨by rfl, ?_⟩) hS0 ?_
                    rotate_left 1
                    · (intro w hSw; (try dsimp only at hSw); go_simp; (try with_reducible rfl))
                    change wpAnyX _ _ _ _ _ _ _ _ (Act.put _ (some 81) _) _
                    try simp only [Act.put, List.setIfInBounds_toArray, List.set_cons_zero, List.set_cons_succ]
                    refine wpAnyX_take (i := 2) (oi := _) (v := ?_) rfl (by kernel_rfl) (by kernel_rfl) (by kernel_rfl) (by kernel_rfl) (fun _ _ _ h => h) (Or.inl ⟨by rfl, ?_⟩) hS0 ?_
                    rotate_left 1
                    · (intro w hSw; (try dsimp only at hSw); go_simp; (try with_reducible rfl))
                    change wpAnyX _ _ _ _ _ _ _ _ (Act.put _ (some 82) _) _
                    try simp only [Act.put, List.setIfInBounds_toArray, List.set_cons_zero, List.set_cons_succ]
                    refine wpAnyX_take (i := 3) (oi := _) (v := ?_) rfl (by kernel_rfl) (by kernel_rfl) (by kernel_rfl) (by kernel_rfl) (fun _ _ _ h => h) (Or.inl ⟨by rfl, ?_⟩) hS0 ?_
                    rotate_left 1
                    · (intro w hSw; (try dsimp only at hSw); go_simp; (try with_reducible rfl))
                    change wpAnyX _ _ _ _ _ _ _ _ (Act.put _ (some 83) _) _
                    try simp only [Act.put, List.setIfInBounds_toArray, List.set_cons_zero, List.set_cons_succ]
                    refine wpAnyX_take (i := 4) (oi := _) (v := ?_) rfl (by kernel_rfl) (by kernel_rfl) (by kernel_rfl) (by kernel_rfl) (fun _ _ _ h => h) (Or.inl ⟨by rfl, ?_⟩) hS0 ?_
                    rotate_left 1
                    · (intro w hSw; (try dsimp only at hSw); go_simp; (try with_reducible rfl))
                    change wpAnyX _ _ _ _ _ _ _ _ (Act.put _ (some 84) _) _
                    try simp only [Act.put, List.setIfInBounds_toArray, List.set_cons_zero, List.set_cons_succ]
                    refine wpAnyX_take (i := 5) (oi := _) (v := ?_) rfl (by kernel_rfl) (by kernel_rfl) (by kernel_rfl) (by kernel_rfl) (fun _ _ _ h => h) (Or.inl ⟨by rfl, ?_⟩) hS0 ?_
                    rotate_left 1
                    · (intro w hSw; (try dsimp only at hSw); go_simp; (try with_reducible rfl))
                    change wpAnyX _ _ _ _ _ _ _ _ (Act.put _ (some 85) _) _
                    try simp only [Act.put, List.setIfInBounds_toArray, List.set_cons_zero, List.set_cons_succ]
                    refine wpAnyX_take (i := 6) (oi := _) (v := ?_) rfl (by kernel_rfl) (by kernel_rfl) (by kernel_rfl) (by kernel_rfl) (fun _ _ _ h => h) (Or.inl ⟨by rfl, ?_⟩) hS0 ?_
                    rotate_left 1
                    · (intro w hSw; (try dsimp only at hSw); go_simp; (try with_reducible rfl))
                    change wpAnyX _ _ _ _ _ _ _ _ (Act.put _ (some 86) _) _
                    try simp only [Act.put, List.setIfInBounds_toArray, List.set_cons_zero, List.set_cons_succ]
                    refine wpAnyX_one (i := 7) (o := _) rfl (by kernel_rfl) (fun K hK => ?_)
                    go_simp
                    refine un9_s.mono ?_
                    rintro ee v0 ⟨rfl, hU, hv0⟩
                    have HU := hid hU.rd
                    clear hU
                    have hq0 := hv0.size
                    (try simp only [World.size_drew] at hq0)
                    refine hK.out _ _ (fun _ => ?_) (fun hS1 => ?_)
                    · exact ⟨kc hv0 (hS0.1), kc hv0 (hS0.2.1), kc hv0 (hS0.2.2.1), kc hv0 (hS0.2.2.2.1), kc hv0 (hS0.2.2.2.2.1), kc hv0 (hS0.2.2.2.2.2.1), kc hv0 (hS0.2.2.2.2.2.2)⟩
                    clear hK K
                    have hS1 := hS1 (by decide)
                    try simp only [Act.put, List.setIfInBounds_toArray, List.set_cons_zero, List.set_cons_succ]
                    refine wpAnyX_one (i := 8) (o := _) rfl (by kernel_rfl) (fun K hK => ?_)
                    go_simp
                    refine (sm_t (xs := zs) (ys := tab 9 (unitP 3 3)) ?_ ?_ HS.out.1 (tab_len _ _) (by decide) HEE.out).mono ?_
                    · exact HRZ.out.mono (by (repeat' (first | (with_reducible exact Below.refl _ _) | (with_reducible assumption) | (with_reducible refine Below.alloc ?_ ?_ _) | (with_reducible refine Below.drew ?_) | (with_reducible refine below_drewN ?_ _) | (with_reducible refine Below.setCell ?_ ?_ _) | (with_reducible refine chain ?_ (by assumption) ?_) | omega | (simp; done) | (simp; omega))))
                    · exact HU.out
                    rintro ee v1 ⟨rfl, hv1⟩
                    have hq1 := hv1.size
                    refine hK.out _ _ (fun _ => ?_) (fun hS2 => ?_)
                    · exact ⟨kc hv1 (hS1.1), kc hv1 (hS1.2.1), kc hv1 (hS1.2.2.1), kc hv1 (hS1.2.2.2.1), kc hv1 (hS1.2.2.2.2.1), kc hv1 (hS1.2.2.2.2.2.1), kc hv1 (hS1.2.2.2.2.2.2)⟩
                    clear hK K
                    have hS2 := hS2 (by decide)
                    try simp only [Act.put, List.setIfInBounds_toArray, List.set_cons_zero, List.set_cons_succ]
                    refine wpAnyX_take (i := 9) (oi := _) (v := ?_) rfl (by kernel_rfl) (by kernel_rfl) (by kernel_rfl) (by kernel_rfl) (fun _ _ _ h => h) (Or.inl ⟨by rfl, ?_⟩) hS2 ?_
                    rotate_left 1
                    · (intro w hSw; (try dsimp only at hSw); go_simp; (try with_reducible rfl))
                    change wpAnyX _ _ _ _ _ _ _ _ (Act.put _ (some 89) _) _
                    try simp only [Act.put, List.setIfInBounds_toArray, List.set_cons_zero, List.set_cons_succ]
                    refine wpAnyX_take (i := 10) (oi := _) (v := ?_) rfl (by kernel_rfl) (by kernel_rfl) (by kernel_rfl) (by kernel_rfl) (fun _ _ _ h => h) (Or.inl ⟨by rfl, ?_⟩) hS2 ?_
                    rotate_left 1
                    · (intro w hSw; (try dsimp only at hSw); go_simp; (try with_reducible rfl))
                    change wpAnyX _ _ _ _ _ _ _ _ (Act.put _ (some 90) _) _
                    try simp only [Act.put, List.setIfInBounds_toArray, List.set_cons_zero, List.set_cons_succ]
                    refine wpAnyX_take (i := 11) (oi := _) (v := ?_) rfl (by kernel_rfl) (by kernel_rfl) (by kernel_rfl) (by kernel_rfl) (fun _ _ _ h => h) (Or.inl ⟨by rfl, ?_⟩) hS2 ?_
                    rotate_left 1
                    · (intro w hSw; (try dsimp only at hSw); go_simp; (try with_reducible rfl))
                    change wpAnyX _ _ _ _ _ _ _ _ (Act.put _ (some 91) _) _
                    try simp only [Act.put, List.setIfInBounds_toArray, List.set_cons_zero, List.set_cons_succ]
                    refine wpAnyX_one (i := 12) (o := _) rfl (by kernel_rfl) (fun K hK => ?_)
                    go_simp
                    refine (pw0 _).mono ?_
                    rintro ee v2 ⟨rfl, hv2⟩
                    have hq2 := hv2.size
                    refine hK.out _ _ (fun _ => ?_) (fun hS3 => ?_)
                    · exact ⟨kc hv2 (hS2.1), kc hv2 (hS2.2.1), kc hv2 (hS2.2.2.1), kc hv2 (hS2.2.2.2.1), kc hv2 (hS2.2.2.2.2.1), kc hv2 (hS2.2.2.2.2.2.1), kc hv2 (hS2.2.2.2.2.2.2)⟩
                    clear hK K
                    have hS3 := hS3 (by decide)
                    try simp only [Act.put, List.setIfInBounds_toArray, List.set_cons_zero, List.set_cons_succ]
                    refine wpAnyX_take (i := 13) (oi := _) (v := .bool true) rfl (by kernel_rfl) (by kernel_rfl) (by kernel_rfl) (by kernel_rfl) (fun _ _ _ h => h) (Or.inl ⟨by rfl, ?_⟩) hS3 ?_
                    · (intro w hSw; (try dsimp only at hSw); go_simp; first | exact (if5 _ _).trans (if_pos HD9.out) | exact fun h1 h2 h3 h4 h5 => HD9.out ⟨h1, h2, h3, h4, h5⟩)
                    change wpAnyX _ _ _ _ _ _ _ _ (Act.put _ (some 93) _) _
                    try simp only [Act.put, List.setIfInBounds_toArray, List.set_cons_zero, List.set_cons_succ]
                    refine wpAnyX_take (i := 14) (oi := _) (v := ?_) rfl (by kernel_rfl) (by kernel_rfl) (by kernel_rfl) (by kernel_rfl) (fun _ _ _ h => h) (Or.inl ⟨by rfl, ?_⟩) hS3 ?_
                    rotate_left 1
                    · (intro w hSw; (try dsimp only at hSw); go_simp; (try with_reducible rfl))
                    change wpAnyX _ _ _ _ _ _ _ _ (Act.put _ (some 94) _) _
                    try simp only [Act.put, List.setIfInBounds_toArray, List.set_cons_zero, List.set_cons_succ]
                    refine wpAnyX_take (i := 15) (oi := _) (v := ?_) rfl (by kernel_rfl) (by kernel_rfl) (by kernel_rfl) (by kernel_rfl) (fun _ _ _ h => h) (Or.inl ⟨by rfl, ?_⟩) hS3 ?_
                    rotate_left 1
                    · (intro w hSw; (try dsimp only at hSw); go_simp; (try with_reducible rfl))
                    change wpAnyX _ _ _ _ _ _ _ _ (Act.put _ (some 2) _) _
                    try simp only [Act.put, List.setIfInBounds_toArray, List.set_cons_zero, List.set_cons_succ]
                    refine wpAnyX_done (by kernel_rfl) ?_ _
                    go_wp2_with (fail)
                    go_ret
                    refine ⟨by rw [HFE.out]; rfl, ?_⟩
                    (repeat' (first | (with_reducible exact Below.refl _ _) | (with_reducible assumption) | (with_reducible refine Below.alloc ?_ ?_ _) | (with_reducible refine Below.drew ?_) | (with_reducible refine below_drewN ?_ _) | (with_reducible refine Below.setCell ?_ ?_ _) | (with_reducible refine chain ?_ (by assumption) ?_) | omega | (simp; done) | (simp; omega)))
                  · have hbe : d3.beq one5 = false := by
                      cases h9 : d3.beq one5
                      · rfl
                      · exact absurd (beq_iff5.1 h9) hd
                    have HFE : Hid (okBl 9 xs = false) := by show _ = _; rw [HFIN.out, HEE.out, hbe]; rfl
                    have HD9 : Hid (¬ (d3.a = 1 ∧ d3.b = 0 ∧ d3.c = 0 ∧ d3.d = 0 ∧ d3.e = 0)) := ne_all5 hd
                    clear hbe hd
                    go_wp2_with (fail)
                    have yxf0 : w13.drew.cell? ⟨gc, 0, none⟩ = some (.bool false) := xf0
                    have yxx0 : w13.drew.cell? ⟨gx, 0, none⟩ = some (.slice Bo 9 cq) := xx0
                    have yd0q : w13.drew.cell? ⟨gd, 0, none⟩ = some (.int .i64 d3.a) := d0q
                    have yd1q : w13.drew.cell? ⟨gd, 1, none⟩ = some (.int .i64 d3.b) := d1q
                    have yd2q : w13.drew.cell? ⟨gd, 2, none⟩ = some (.int .i64 d3.c) := d2q
                    have yd3q : w13.drew.cell? ⟨gd, 3, none⟩ = some (.int .i64 d3.d) := d3q
                    have yd4q : w13.drew.cell? ⟨gd, 4, none⟩ = some (.int .i64 d3.e) := d4q
                    refine wp_region_x (fun w' => w'.cell? ⟨gc, 0, none⟩ = some (.bool false) ∧ w'.cell? ⟨gx, 0, none⟩ = some (.slice Bo 9 cq) ∧ w'.cell? ⟨gd, 0, none⟩ = some (.int .i64 d3.a) ∧ w'.cell? ⟨gd, 1, none⟩ = some (.int .i64 d3.b) ∧ w'.cell? ⟨gd, 2, none⟩ = some (.int .i64 d3.c) ∧ w'.cell? ⟨gd, 3, none⟩ = some (.int .i64 d3.d) ∧ w'.cell? ⟨gd, 4, none⟩ = some (.int .i64 d3.e)) 1000 (by kernel_rfl) ⟨yxf0, yxx0, yd0q, yd1q, yd2q, yd3q, yd4q⟩ (fun hS0 => ?_)
                    refine wpAnyX_take (i := 0) (oi := _) (v := ?_) rfl (by kernel_rfl) (by kernel_rfl) (by kernel_rfl) (by kernel_rfl) (fun _ _ _ h => h) (Or.inl ⟨by rfl, ?_⟩) hS0 ?_
                    rotate_left 1
                    · (intro w hSw; (try dsimp only at hSw); go_simp; (try with_reducible rfl))
                    change wpAnyX _ _ _ _ _ _ _ _ (Act.put _ (some 80) _) _
                    try simp only [Act.put, List.setIfInBounds_toArray, List.set_cons_zero, List.set_cons_succ]
                    refine wpAnyX_take (i := 1) (oi := _) (v := ?_) rfl (by kernel_rfl) (by kernel_rfl) (by kernel_rfl) (by kernel_rfl) (fun _ _ _ h => h) (Or.inl ⟨by rfl, ?_⟩) hS0 ?_
                    rotate_left 1
                    · (intro w hSw; (try dsimp only at hSw); go_simp; (try with_reducible rfl))
                    change wpAnyX _ _ _ _ _ _ _ _ (Act.put _ (some 81) _) _
                    try simp only [Act.put, List.setIfInBounds_toArray, List.set_cons_zero, List.set_cons_succ]
                    refine wpAnyX_take (i := 2) (oi := _) (v := ?_) rfl (by kernel_rfl) (by kernel_rfl) (by kernel_rfl) (by kernel_rfl) (fun _ _ _ h => h) (Or.inl ⟨by rfl, ?_⟩) hS0 ?_
                    rotate_left 1
                    · (intro w hSw; (try dsimp only at hSw); go_simp; (try with_reducible rfl))
                    change wpAnyX _ _ _ _ _ _ _ _ (Act.put _ (some 82) _) _
                    try simp only [Act.put, List.setIfInBounds_toArray, List.set_cons_zero, List.set_cons_succ]
                    refine wpAnyX_take (i := 3) (oi := _) (v := ?_) rfl (by kernel_rfl) (by kernel_rfl) (by kernel_rfl) (by kernel_rfl) (fun _ _ _ h => h) (Or.inl ⟨by rfl, ?_⟩) hS0 ?_
                    rotate_left 1
                    · (intro w hSw; (try dsimp only at hSw); go_simp; (try with_reducible rfl))
                    change wpAnyX _ _ _ _ _ _ _ _ (Act.put _ (some 83) _) _
                    try simp only [Act.put, List.setIfInBounds_toArray, List.set_cons_zero, List.set_cons_succ]
                    refine wpAnyX_take (i := 4) (oi := _) (v := ?_) rfl (by kernel_rfl) (by kernel_rfl) (by kernel_rfl) (by kernel_rfl) (fun _ _ _ h => h) (Or.inl ⟨by rfl, ?_⟩) hS0 ?_
                    rotate_left 1
                    · (intro w hSw; (try dsimp only at hSw); go_simp; (try with_reducible rfl))
                    change wpAnyX _ _ _ _ _ _ _ _ (Act.put _ (some 84) _) _
                    try simp only [Act.put, List.setIfInBounds_toArray, List.set_cons_zero, List.set_cons_succ]
                    refine wpAnyX_take (i := 5) (oi := _) (v := ?_) rfl (by kernel_rfl) (by kernel_rfl) (by kernel_rfl) (by kernel_rfl) (fun _ _ _ h => h) (Or.inl ⟨by rfl, ?_⟩) hS0 ?_
                    rotate_left 1
                    · (intro w hSw; (try dsimp only at hSw); go_simp; (try with_reducible rfl))
                    change wpAnyX _ _ _ _ _ _ _ _ (Act.put _ (some 85) _) _
                    try simp only [Act.put, List.setIfInBounds_toArray, List.set_cons_zero, List.set_cons_succ]
                    refine wpAnyX_take (i := 6) (oi := _) (v := ?_) rfl (by kernel_rfl) (by kernel_rfl) (by kernel_rfl) (by kernel_rfl) (fun _ _ _ h => h) (Or.inl ⟨by rfl, ?_⟩) hS0 ?_
                    rotate_left 1
                    · (intro w hSw; (try dsimp only at hSw); go_simp; (try with_reducible rfl))
                    change wpAnyX _ _ _ _ _ _ _ _ (Act.put _ (some 86) _) _
                    try simp only [Act.put, List.setIfInBounds_toArray, List.set_cons_zero, List.set_cons_succ]
                    refine wpAnyX_one (i := 7) (o := _) rfl (by kernel_rfl) (fun K hK => ?_)
                    go_simp
                    refine un9_s.mono ?_
                    rintro ee v0 ⟨rfl, hU, hv0⟩
                    have HU := hid hU.rd
                    clear hU
                    have hq0 := hv0.size
                    (try simp only [World.size_drew] at hq0)
                    refine hK.out _ _ (fun _ => ?_) (fun hS1 => ?_)
                    · exact ⟨kc hv0 (hS0.1), kc hv0 (hS0.2.1), kc hv0 (hS0.2.2.1), kc hv0 (hS0.2.2.2.1), kc hv0 (hS0.2.2.2.2.1), kc hv0 (hS0.2.2.2.2.2.1), kc hv0 (hS0.2.2.2.2.2.2)⟩
                    clear hK K
                    have hS1 := hS1 (by decide)
                    try simp only [Act.put, List.setIfInBounds_toArray, List.set_cons_zero, List.set_cons_succ]
                    refine wpAnyX_one (i := 8) (o := _) rfl (by kernel_rfl) (fun K hK => ?_)
                    go_simp
                    refine (sm_t (xs := zs) (ys := tab 9 (unitP 3 3)) ?_ ?_ HS.out.1 (tab_len _ _) (by decide) HEE.out).mono ?_
                    · exact HRZ.out.mono (by (repeat' (first | (with_reducible exact Below.refl _ _) | (with_reducible assumption) | (with_reducible refine Below.alloc ?_ ?_ _) | (with_reducible refine Below.drew ?_) | (with_reducible refine below_drewN ?_ _) | (with_reducible refine Below.setCell ?_ ?_ _) | (with_reducible refine chain ?_ (by assumption) ?_) | omega | (simp; done) | (simp; omega))))
                    · exact HU.out
                    rintro ee v1 ⟨rfl, hv1⟩
                    have hq1 := hv1.size
                    refine hK.out _ _ (fun _ => ?_) (fun hS2 => ?_)
                    · exact ⟨kc hv1 (hS1.1), kc hv1 (hS1.2.1), kc hv1 (hS1.2.2.1), kc hv1 (hS1.2.2.2.1), kc hv1 (hS1.2.2.2.2.1), kc hv1 (hS1.2.2.2.2.2.1), kc hv1 (hS1.2.2.2.2.2.2)⟩
                    clear hK K
                    have hS2 := hS2 (by decide)
                    try simp only [Act.put, List.setIfInBounds_toArray, List.set_cons_zero, List.set_cons_succ]
                    refine wpAnyX_take (i := 9) (oi := _) (v := ?_) rfl (by kernel_rfl) (by kernel_rfl) (by kernel_rfl) (by kernel_rfl) (fun _ _ _ h => h) (Or.inl ⟨by rfl, ?_⟩) hS2 ?_
                    rotate_left 1
                    · (intro w hSw; (try dsimp only at hSw); go_simp; (try with_reducible rfl))
                    change wpAnyX _ _ _ _ _ _ _ _ (Act.put _ (some 89) _) _
                    try simp only [Act.put, List.setIfInBounds_toArray, List.set_cons_zero, List.set_cons_succ]
                    refine wpAnyX_take (i := 10) (oi := _) (v := ?_) rfl (by kernel_rfl) (by kernel_rfl) (by kernel_rfl) (by kernel_rfl) (fun _ _ _ h => h) (Or.inl ⟨by rfl, ?_⟩) hS2 ?_
                    rotate_left 1
                    · (intro w hSw; (try dsimp only at hSw); go_simp; (try with_reducible rfl))
                    change wpAnyX _ _ _ _ _ _ _ _ (Act.put _ (some 90) _) _
                    try simp only [Act.put, List.setIfInBounds_toArray, List.set_cons_zero, List.set_cons_succ]
                    refine wpAnyX_take (i := 11) (oi := _) (v := ?_) rfl (by kernel_rfl) (by kernel_rfl) (by kernel_rfl) (by kernel_rfl) (fun _ _ _ h => h) (Or.inl ⟨by rfl, ?_⟩) hS2 ?_
                    rotate_left 1
                    · (intro w hSw; (try dsimp only at hSw); go_simp; (try with_reducible rfl))
                    change wpAnyX _ _ _ _ _ _ _ _ (Act.put _ (some 91) _) _
                    try simp only [Act.put, List.setIfInBounds_toArray, List.set_cons_zero, List.set_cons_succ]
                    refine wpAnyX_one (i := 12) (o := _) rfl (by kernel_rfl) (fun K hK => ?_)
                    go_simp
                    refine (pw0 _).mono ?_
                    rintro ee v2 ⟨rfl, hv2⟩
                    have hq2 := hv2.size
                    refine hK.out _ _ (fun _ => ?_) (fun hS3 => ?_)
                    · exact ⟨kc hv2 (hS2.1), kc hv2 (hS2.2.1), kc hv2 (hS2.2.2.1), kc hv2 (hS2.2.2.2.1), kc hv2 (hS2.2.2.2.2.1), kc hv2 (hS2.2.2.2.2.2.1), kc hv2 (hS2.2.2.2.2.2.2)⟩
                    clear hK K
                    have hS3 := hS3 (by decide)
                    try simp only [Act.put, List.setIfInBounds_toArray, List.set_cons_zero, List.set_cons_succ]
                    refine wpAnyX_take (i := 13) (oi := _) (v := .bool false) rfl (by kernel_rfl) (by kernel_rfl) (by kernel_rfl) (by kernel_rfl) (fun _ _ _ h => h) (Or.inl ⟨by rfl, ?_⟩) hS3 ?_
                    · (intro w hSw; (try dsimp only at hSw); go_simp; first | exact (if5 _ _).trans (if_neg HD9.out) | exact fun h1 h2 h3 h4 h5 => HD9.out ⟨h1, h2, h3, h4, h5⟩)
                    change wpAnyX _ _ _ _ _ _ _ _ (Act.put _ (some 93) _) _
                    try simp only [Act.put, List.setIfInBounds_toArray, List.set_cons_zero, List.set_cons_succ]
                    refine wpAnyX_take (i := 14) (oi := _) (v := ?_) rfl (by kernel_rfl) (by kernel_rfl) (by kernel_rfl) (by kernel_rfl) (fun _ _ _ h => h) (Or.inl ⟨by rfl, ?_⟩) hS3 ?_
                    rotate_left 1
                    · (intro w hSw; (try dsimp only at hSw); go_simp; (try with_reducible rfl))
                    change wpAnyX _ _ _ _ _ _ _ _ (Act.put _ (some 94) _) _
                    try simp only [Act.put, List.setIfInBounds_toArray, List.set_cons_zero, List.set_cons_succ]
                    refine wpAnyX_take (i := 15) (oi := _) (v := ?_) rfl (by kernel_rfl) (by kernel_rfl) (by kernel_rfl) (by kernel_rfl) (fun _ _ _ h => h) (Or.inl ⟨by rfl, ?_⟩) hS3 ?_
                    rotate_left 1
                    · (intro w hSw; (try dsimp only at hSw); go_simp; (try with_reducible rfl))
                    change wpAnyX _ _ _ _ _ _ _ _ (Act.put _ (some 2) _) _
                    try simp only [Act.put, List.setIfInBounds_toArray, List.set_cons_zero, List.set_cons_succ]
                    refine wpAnyX_done (by kernel_rfl) ?_ _
                    go_wp2_with (fail)
                    go_ret
                    refine ⟨by rw [HFE.out]; rfl, ?_⟩
                    (repeat' (first | (with_reducible exact Below.refl _ _) | (with_reducible assumption) | (with_reducible refine Below.alloc ?_ ?_ _) | (with_reducible refine Below.drew ?_) | (with_reducible refine below_drewN ?_ _) | (with_reducible refine Below.setCell ?_ ?_ _) | (with_reducible refine chain ?_ (by assumption) ?_) | omega | (simp; done) | (simp; omega)))
              · have hfe : okBl 9 xs = false := by rw [HFIN.out]; rfl
                have HFE := hid hfe
                clear hfe
                go_wp2_with (fail)
                go_quiet (fail)
                go_wp2_with (fail)
                go_ret
                refine ⟨by rw [HFE.out]; rfl, ?_⟩
                (repeat' (first | (with_reducible exact Below.refl _ _) | (with_reducible assumption) | (with_reducible refine Below.alloc ?_ ?_ _) | (with_reducible refine Below.drew ?_) | (with_reducible refine below_drewN ?_ _) | (with_reducible refine Below.setCell ?_ ?_ _) | (with_reducible refine chain ?_ (by assumption) ?_) | omega | (simp; done) | (simp; omega)))
    | succ m =>
      have hlt : j < 9 := by omega
      have j1 : (j : Int) < 9 := by omega
      obtain ⟨x, hx⟩ : ∃ x, xs[j]? = some x := ⟨_, List.getElem?_eq_getElem (by rw [HN.out]; exact hlt)⟩
      obtain ⟨g, o, e9, hC⟩ := HA.out j x hx
      simp only [Option.some.injEq, Addr.mk.injEq, and_true] at e9
      obtain ⟨rfl, rfl⟩ := e9
      obtain ⟨q0, q1, q2, q3, q4⟩ := hC.at_ (hB.block g0 hC.lt)
      simp only [Nat.zero_add] at q0 q1 q2 q3 q4
      clear hC
      have HX := hid hx
      clear hx
      cases hk : x.ok
      · have HK := hid hk
        clear hk
        go_wp2_with (fail)
        refine (gd_f (x := x) HK.out _).mono ?_
        rintro ee w4 ⟨rfl, hb4⟩
        go_wp2_with (fail)
        go_ret
        refine ⟨by rw [okBl_c (allR_not HX.out (by rw [HK.out]; rfl))]; rfl, ?_⟩
        (repeat' (first | (with_reducible exact Below.refl _ _) | (with_reducible assumption) | (with_reducible refine Below.alloc ?_ ?_ _) | (with_reducible refine Below.drew ?_) | (with_reducible refine below_drewN ?_ _) | (with_reducible refine Below.setCell ?_ ?_ _) | (with_reducible refine chain ?_ (by assumption) ?_) | omega | (simp; done) | (simp; omega)))
      · have HK := hid hk
        have hvr := vr_ok hk
        obtain ⟨-, ⟨b1, b2⟩, -, -⟩ := vr_iff.1 hvr
        have hng : IntKind.i64.wrap (-x.b) = -x.b := IntWalk.i64_in _ (by omega)
        clear hk hvr
        go_wp2_with (fail)
        refine (gd_t (x := x) HK.out _).mono ?_
        rintro ee w4 ⟨rfl, hb4⟩
        have X4 := Bx.mono (b := wr.heap.size) (t := 99) (cs := #[.int .i64 x.a, .int .i64 x.b, .int .i64 x.c, .int .i64 x.d, .int .i64 x.e]) (Bx.new rfl) hb4
        have x40 := X4.c 0 rfl
        have x41 := X4.c 1 rfl
        have x42 := X4.c 2 rfl
        have x43 := X4.c 3 rfl
        have x44 := X4.c 4 rfl
        have XB4 := hid ((Bx.alloc XB.out _).mono hb4)
        have hB4 : Below w.heap.size w w4 := by (repeat' (first | (with_reducible exact Below.refl _ _) | (with_reducible assumption) | (with_reducible refine Below.alloc ?_ ?_ _) | (with_reducible refine Below.drew ?_) | (with_reducible refine below_drewN ?_ _) | (with_reducible refine Below.setCell ?_ ?_ _) | (with_reducible refine chain ?_ (by assumption) ?_) | omega | (simp; done) | (simp; omega)))
        clear hb4 X4 xb xbl XB
        by_cases hc : x.c = 0
        · have c1 : (x.c != 0) = false := by simp [hc]
          by_cases hd : x.d = -x.b
          · have d1 : (x.d != -x.b) = false := by simp [hd]
            have HRX : Hid ((x.ok && rl5 x) = true) := by show _ = _; unfold rl5; rw [HK.out, hc, hd]; simp
            clear hc hd
            go_wp2_with (fail)
            go_roundg m
            case measure => omega
            case rel => exact ⟨j + 1, by omega, by go_num, takeR HX.out HJ.out HRX.out, XB4, hB4⟩
          · have d1 : (x.d != -x.b) = true := by simp [hd]
            have HRX : Hid ((x.ok && rl5 x) = false) := by show _ = _; unfold rl5; rw [HK.out, hc]; simp [hd]
            clear hc hd
            go_wp2_with (fail)
            go_ret
            exact ⟨by rw [okBl_c (allR_not HX.out HRX.out)]; rfl, hB4⟩
        · have c1 : (x.c != 0) = true := by simp [hc]
          have HRX : Hid ((x.ok && rl5 x) = false) := by show _ = _; unfold rl5; rw [HK.out]; simp [hc]
          clear hc
          go_wp2_with (fail)
          go_ret
          exact ⟨by rw [okBl_c (allR_not HX.out HRX.out)]; rfl, hB4⟩

set_option maxRecDepth 100000 in
set_option maxHeartbeats 16000000 in
theorem lv_s {g0 n cp : Nat} {xs : List D5} {w : World} (hA : Rd w (some ⟨g0, 0, none⟩) xs) (hn : xs.length = n) (hb : n ≤ 1048576) (hg : 0 < n → g0 < w.heap.size) :
    Calls Try.prog 70 #[bv (some ⟨g0, 0, none⟩) n cp] w fun ee w' => ee = .returned (.bool (okBl n xs)) ∧ Below w.heap.size w w' := by
  by_cases h9 : n = 9
  · obtain ⟨N, hN9⟩ : ∃ N, N = n := ⟨_, rfl⟩
    have hn9 : xs.length = 9 := by omega
    have hgl : g0 < w.heap.size := hg (by omega)
    subst h9
    clear hN9 hn hg N
    exact lv_s9 hA hn9 hgl
  · have h1 : ((n : Int) != 9) = true := by simp; omega
    rw [okBl_n h9]
    clear h9
    go_enter Try.func70, Try.ntmps70
    go_wp2_with (fail)
    go_ret
    refine ⟨rfl, ?_⟩
    (repeat' (first | (with_reducible exact Below.refl _ _) | (with_reducible assumption) | (with_reducible refine Below.alloc ?_ ?_ _) | (with_reducible refine Below.drew ?_) | (with_reducible refine below_drewN ?_ _) | (with_reducible refine Below.setCell ?_ ?_ _) | (with_reducible refine chain ?_ (by assumption) ?_) | omega | (simp; done) | (simp; omega)))


end Go.Proofs.Ytofclfgaekjonaa
