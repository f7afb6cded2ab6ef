/- TransposeBloch: both sides. -/
import Derived.Test.YtofclfgaekjonaaBtx
namespace Go.Proofs.Ytofclfgaekjonaa
open Go.RowKit RM
set_option linter.unusedVariables false
set_option linter.unusedSimpArgs false
attribute [local irreducible] World.setCell

set_option maxRecDepth 100000 in
set_option maxHeartbeats 8000000 in
theorem tb_s_f {g0 n : Nat} {xs : List D5} {w : World} (hA : Rd w (some ⟨g0, 0, none⟩) xs) (hn : xs.length = n) (hb : n ≤ 1048576) (h1 : okBl n xs = false) :
    Calls Try.prog 36 #[bv (some ⟨g0, 0, none⟩) n n] w fun ee w' => ee = .returned (bt none 0 0 false) ∧ Below w.heap.size w w' := by
  have HA := hid hA
  have HN := hid hn
  have hl : 0 < n → g0 < w.heap.size := fun h => hA.ltA (by omega) _ rfl
  have HL := hid hl
  have H1 := hid h1
  clear hA hn hl h1
  go_enter Try.func36, Try.ntmps36
  go_upto_region 1 with (fail)
  obtain ⟨W, hW⟩ : ∃ W : World, W = (w.alloc (.cells #[.slice (some ⟨g0, 0, none⟩) n n] 51)).alloc (.cells #[.slice none 0 0] 51) := ⟨_, rfl⟩
  have hBW : Below w.heap.size w W := by rw [hW]; exact ((Below.refl _ _).alloc (Nat.le_refl _) _).alloc (by simp) _
  have XA : Hid (Bx W w.heap.size 51 #[.slice (some ⟨g0, 0, none⟩) n n]) := by rw [hW]; exact (Bx.new rfl).alloc _
  have XR : Hid (Bx W (w.heap.size + 1) 51 #[.slice none 0 0]) := by rw [hW]; exact Bx.new (by simp)
  have hzW : w.heap.size + 1 < W.heap.size := by rw [hW]; simp
  rw [← hW]
  clear hW
  have a0 := XA.out.c 0 rfl
  go_wp2_with (fail)
  refine (lv_s (xs := xs) ?_ HN.out hb (fun h => by have := HL.out h; have := hBW.size; omega)).mono ?_
  · exact HA.out.mono hBW
  rw [H1.out]
  rintro ee w1 ⟨rfl, hb1⟩
  clear a0
  have hBw1 : Below w.heap.size w w1 := chain hBW hb1 hBW.size
  have hzw1 := hb1.size
  replace XA := hid (XA.out.mono hb1)
  replace XR := hid (XR.out.mono hb1)
  have r0 := XR.out.c 0 rfl
  have rf := XR.out.f
  have rl := XR.out.lt
  go_upto_region 2 with (fail)
  go_wp2_with (fail)
  refine bodyPost_ret (v := bt none 0 0 false) (by first | (simp [results, Try.results36, go_sem, *]; done) | (simp only [results, Try.results36]; go_simp; done)) rfl ⟨rfl, ?_⟩
  (repeat' (first | (with_reducible exact Below.refl _ _) | (with_reducible assumption) | (with_reducible refine Below.alloc ?_ ?_ _) | (with_reducible refine Below.drew ?_) | (with_reducible refine below_drewN ?_ _) | (with_reducible refine Below.setCell ?_ ?_ _) | (with_reducible refine chain ?_ (by assumption) ?_) | omega | (simp; done) | (simp; omega)))

set_option maxRecDepth 100000 in
set_option maxHeartbeats 8000000 in
theorem tb_s_t {g0 n : Nat} {xs : List D5} {w : World} (hA : Rd w (some ⟨g0, 0, none⟩) xs) (hn : xs.length = n) (hb : n ≤ 1048576) (h1 : okBl n xs = true) :
    Calls Try.prog 36 #[bv (some ⟨g0, 0, none⟩) n n] w fun ee w' => ∃ A cp, ee = .returned (bt A 9 cp true) ∧ Rd w' A (tab 9 (tpF xs)) ∧ Below w.heap.size w w' := by
  have HA := hid hA
  have HN := hid hn
  have hl : 0 < n → g0 < w.heap.size := fun h => hA.ltA (by omega) _ rfl
  have HL := hid hl
  have H1 := hid h1
  have h9 := (okBl_iff h1).1
  have H9 := hid h9
  clear hA hn hl h1 h9
  go_enter Try.func36, Try.ntmps36
  go_upto_region 1 with (fail)
  obtain ⟨W, hW⟩ : ∃ W : World, W = (w.alloc (.cells #[.slice (some ⟨g0, 0, none⟩) n n] 51)).alloc (.cells #[.slice none 0 0] 51) := ⟨_, rfl⟩
  have hBW : Below w.heap.size w W := by rw [hW]; exact ((Below.refl _ _).alloc (Nat.le_refl _) _).alloc (by simp) _
  have XA : Hid (Bx W w.heap.size 51 #[.slice (some ⟨g0, 0, none⟩) n n]) := by rw [hW]; exact (Bx.new rfl).alloc _
  have XR : Hid (Bx W (w.heap.size + 1) 51 #[.slice none 0 0]) := by rw [hW]; exact Bx.new (by simp)
  have hzW : w.heap.size + 1 < W.heap.size := by rw [hW]; simp
  rw [← hW]
  clear hW
  have a0 := XA.out.c 0 rfl
  go_wp2_with (fail)
  refine (lv_s (xs := xs) ?_ HN.out hb (fun h => by have := HL.out h; have := hBW.size; omega)).mono ?_
  · exact HA.out.mono hBW
  rw [H1.out]
  rintro ee w1 ⟨rfl, hb1⟩
  clear a0
  have hBw1 : Below w.heap.size w w1 := chain hBW hb1 hBW.size
  have hzw1 := hb1.size
  replace XA := hid (XA.out.mono hb1)
  replace XR := hid (XR.out.mono hb1)
  have a0 := XA.out.c 0 rfl
  have lR := XR.out.lt
  have e9 := H9.out
  subst e9
  go_wp2_with (fail)
  refine (ltr (xs := xs) (HA.out.mono hBw1) HN.out).mono ?_
  rintro ee w2 ⟨B2, cq, rfl, hR, hlo, hb2x⟩
  have HR := hid hR
  have HLO := hid hlo
  clear hR hlo a0
  have hBw2 : Below w.heap.size w w2 := chain hBw1 hb2x hBw1.size
  have hzw2 := hb2x.size
  replace XA := hid (XA.out.mono hb2x)
  replace XR := hid (XR.out.mono hb2x)
  have r0 := XR.out.c 0 rfl
  have rf := XR.out.f
  have rl := XR.out.lt
  go_wp2_with (fail)
  refine bodyPost_ret (v := bt B2 9 cq true) (by first | (simp only [results, Try.results36]; go_simp; done) | (simp [results, Try.results36, go_sem, *]; done)) rfl ⟨B2, cq, rfl, HR.out.far (p := ⟨w.heap.size + 1, 0, none⟩) (fun a ha => by have := HLO.out a ha; show a.block ≠ w.heap.size + 1; omega) _, hBw2.setCell (by first | (dsimp only; omega) | omega) _⟩

set_option maxRecDepth 100000 in
set_option maxHeartbeats 8000000 in
theorem tb_i_f {g0 n : Nat} {xs : List D5} {w : World} (hA : Rd w (some ⟨g0, 0, none⟩) xs) (hn : xs.length = n) (hb : n ≤ 1048576) (h1 : okBl n xs = false) :
    Calls Try.prog 37 #[bv (some ⟨g0, 0, none⟩) n n] w fun ee w' => ee = .returned (bt none 0 0 false) ∧ Below w.heap.size w w' := by
  have HA := hid hA
  have HN := hid hn
  have hl : 0 < n → g0 < w.heap.size := fun h => hA.ltA (by omega) _ rfl
  have HL := hid hl
  have H1 := hid h1
  clear hA hn hl h1
  go_enter Try.func37, Try.ntmps37
  go_upto_region 1 with (fail)
  obtain ⟨W, hW⟩ : ∃ W : World, W = (w.alloc (.cells #[.slice (some ⟨g0, 0, none⟩) n n] 51)).alloc (.cells #[.slice none 0 0] 51) := ⟨_, rfl⟩
  have hBW : Below w.heap.size w W := by rw [hW]; exact ((Below.refl _ _).alloc (Nat.le_refl _) _).alloc (by simp) _
  have XA : Hid (Bx W w.heap.size 51 #[.slice (some ⟨g0, 0, none⟩) n n]) := by rw [hW]; exact (Bx.new rfl).alloc _
  have XR : Hid (Bx W (w.heap.size + 1) 51 #[.slice none 0 0]) := by rw [hW]; exact Bx.new (by simp)
  have hzW : w.heap.size + 1 < W.heap.size := by rw [hW]; simp
  rw [← hW]
  clear hW
  have a0 := XA.out.c 0 rfl
  go_wp2_with (fail)
  refine (iv_i (xs := xs) ?_ HN.out hb).mono ?_
  · exact HA.out.mono hBW
  rw [H1.out]
  rintro ee w1 ⟨rfl, hb1⟩
  clear a0
  have hBw1 : Below w.heap.size w w1 := chain hBW hb1 hBW.size
  have hzw1 := hb1.size
  replace XA := hid (XA.out.mono hb1)
  replace XR := hid (XR.out.mono hb1)
  have r0 := XR.out.c 0 rfl
  have rf := XR.out.f
  have rl := XR.out.lt
  go_upto_region 2 with (fail)
  go_wp2_with (fail)
  refine bodyPost_ret (v := bt none 0 0 false) (by first | (simp [results, Try.results37, go_sem, *]; done) | (simp only [results, Try.results37]; go_simp; done)) rfl ⟨rfl, ?_⟩
  (repeat' (first | (with_reducible exact Below.refl _ _) | (with_reducible assumption) | (with_reducible refine Below.alloc ?_ ?_ _) | (with_reducible refine Below.drew ?_) | (with_reducible refine below_drewN ?_ _) | (with_reducible refine Below.setCell ?_ ?_ _) | (with_reducible refine chain ?_ (by assumption) ?_) | omega | (simp; done) | (simp; omega)))

set_option maxRecDepth 100000 in
set_option maxHeartbeats 8000000 in
theorem tb_i_t {g0 n : Nat} {xs : List D5} {w : World} (hA : Rd w (some ⟨g0, 0, none⟩) xs) (hn : xs.length = n) (hb : n ≤ 1048576) (h1 : okBl n xs = true) :
    Calls Try.prog 37 #[bv (some ⟨g0, 0, none⟩) n n] w fun ee w' => ∃ A cp, ee = .returned (bt A 9 cp true) ∧ OwX w' w.heap.size 99 A (tab 9 (tpF xs)) ∧ Below w.heap.size w w' := by
  have HA := hid hA
  have HN := hid hn
  have hl : 0 < n → g0 < w.heap.size := fun h => hA.ltA (by omega) _ rfl
  have HL := hid hl
  have H1 := hid h1
  have h9 := (okBl_iff h1).1
  have H9 := hid h9
  clear hA hn hl h1 h9
  go_enter Try.func37, Try.ntmps37
  go_upto_region 1 with (fail)
  obtain ⟨W, hW⟩ : ∃ W : World, W = (w.alloc (.cells #[.slice (some ⟨g0, 0, none⟩) n n] 51)).alloc (.cells #[.slice none 0 0] 51) := ⟨_, rfl⟩
  have hBW : Below w.heap.size w W := by rw [hW]; exact ((Below.refl _ _).alloc (Nat.le_refl _) _).alloc (by simp) _
  have XA : Hid (Bx W w.heap.size 51 #[.slice (some ⟨g0, 0, none⟩) n n]) := by rw [hW]; exact (Bx.new rfl).alloc _
  have XR : Hid (Bx W (w.heap.size + 1) 51 #[.slice none 0 0]) := by rw [hW]; exact Bx.new (by simp)
  have hzW : w.heap.size + 1 < W.heap.size := by rw [hW]; simp
  rw [← hW]
  clear hW
  have a0 := XA.out.c 0 rfl
  go_wp2_with (fail)
  refine (iv_i (xs := xs) ?_ HN.out hb).mono ?_
  · exact HA.out.mono hBW
  rw [H1.out]
  rintro ee w1 ⟨rfl, hb1⟩
  clear a0
  have hBw1 : Below w.heap.size w w1 := chain hBW hb1 hBW.size
  have hzw1 := hb1.size
  replace XA := hid (XA.out.mono hb1)
  replace XR := hid (XR.out.mono hb1)
  have a0 := XA.out.c 0 rfl
  have lR := XR.out.lt
  have e9 := H9.out
  subst e9
  go_wp2_with (fail)
  refine (tr_i (xs := xs) (HA.out.mono hBw1) HN.out).mono ?_
  rintro ee w2 ⟨tv, rfl, hT, hb2x⟩
  obtain ⟨g, cq, rfl, hX, hgb⟩ := hT.bkx (by rw [tab_len]; decide)
  rw [tab_len]
  have HR := hid hX
  clear hX hT a0
  have hBw2 : Below w.heap.size w w2 := chain hBw1 hb2x hBw1.size
  have hzw2 := hb2x.size
  replace XA := hid (XA.out.mono hb2x)
  replace XR := hid (XR.out.mono hb2x)
  have r0 := XR.out.c 0 rfl
  have rf := XR.out.f
  have rl := XR.out.lt
  go_wp2_with (fail)
  refine bodyPost_ret (v := bt (some ⟨g, 0, none⟩) 9 cq true) (by first | (simp only [results, Try.results37]; go_simp; done) | (simp [results, Try.results37, go_sem, *]; done)) rfl ⟨_, cq, rfl, Or.inr ⟨g, rfl, by omega, HR.out.at_ (Below.heap_setCell _ ⟨w.heap.size + 1, 0, none⟩ _ _ (by show g ≠ w.heap.size + 1; omega))⟩, hBw2.setCell (by first | (dsimp only; omega) | omega) _⟩


end Go.Proofs.Ytofclfgaekjonaa
