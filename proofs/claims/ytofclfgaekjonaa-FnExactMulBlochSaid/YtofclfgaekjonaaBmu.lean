/- MulBloch: the model. -/
import Derived.Test.YtofclfgaekjonaaZq27
import Derived.Test.YtofclfgaekjonaaZq17
namespace Go.Proofs.Ytofclfgaekjonaa
open Go.RowKit RM
set_option linter.unusedVariables false
set_option linter.unusedSimpArgs false
attribute [local irreducible] World.setCell

set_option maxRecDepth 100000 in
set_option maxHeartbeats 4000000 in
theorem mb_s_1 {g0 h0 n m : Nat} {xs ys : List D5} {w : World} (hA : Rd w (some ⟨g0, 0, none⟩) xs) (hB : Rd w (some ⟨h0, 0, none⟩) ys) (hn : xs.length = n) (hm : ys.length = m) (hb : n ≤ 1048576) (hb2 : m ≤ 1048576) (h1 : okBl n xs = false) :
    Calls Try.prog 32 #[bv (some ⟨g0, 0, none⟩) n n, bv (some ⟨h0, 0, none⟩) m m] w fun ee w' => ee = .returned (bt none 0 0 false) ∧ Below w.heap.size w w' := by
  have HA := hid hA
  have HB := hid hB
  have HN := hid hn
  have HM := hid hm
  have hl : 0 < n → g0 < w.heap.size := fun h => hA.ltA (by omega) _ rfl
  have hl2 : 0 < m → h0 < w.heap.size := fun h => hB.ltA (by omega) _ rfl
  have HL := hid hl
  have HL2 := hid hl2
  have H1 := hid h1
  clear hA hB hn hm hl hl2 h1
  go_enter Try.func32, Try.ntmps32
  go_upto_region 1 with (fail)
  obtain ⟨W, hW⟩ : ∃ W : World, W = ((w.alloc (.cells #[.slice (some ⟨g0, 0, none⟩) n n] 51)).alloc (.cells #[.slice (some ⟨h0, 0, none⟩) m m] 51)).alloc (.cells #[.slice none 0 0] 51) := ⟨_, rfl⟩
  have hBW : Below w.heap.size w W := by rw [hW]; exact (((Below.refl _ _).alloc (Nat.le_refl _) _).alloc (by simp) _).alloc (by simp; omega) _
  have XA : Hid (Bx W w.heap.size 51 #[.slice (some ⟨g0, 0, none⟩) n n]) := by rw [hW]; exact ((Bx.new rfl).alloc _).alloc _
  have XB : Hid (Bx W (w.heap.size + 1) 51 #[.slice (some ⟨h0, 0, none⟩) m m]) := by rw [hW]; exact (Bx.new (by simp)).alloc _
  have XR : Hid (Bx W (w.heap.size + 1 + 1) 51 #[.slice none 0 0]) := by rw [hW]; exact Bx.new (by simp)
  have hzW : w.heap.size + 1 + 1 < W.heap.size := by rw [hW]; simp
  rw [← hW]
  clear hW
  have a0 := XA.out.c 0 rfl
  go_wp2_with (fail)
  refine (lv_s (xs := xs) ?_ HN.out hb (fun h => by have := HL.out h; have := hBW.size; omega)).mono ?_
  · exact HA.out.mono hBW
  rw [H1.out]
  rintro ee w1 ⟨rfl, hb1⟩
  clear a0
  have hBw1 : Below w.heap.size w w1 := chain hBW hb1 hBW.size
  have hzw1 := hb1.size
  replace XA := hid (XA.out.mono hb1)
  replace XB := hid (XB.out.mono hb1)
  replace XR := hid (XR.out.mono hb1)
  have r0 := XR.out.c 0 rfl
  have rf := XR.out.f
  have rl := XR.out.lt
  go_upto_region 2 with (fail)
  go_wp2_with (fail)
  refine bodyPost_ret (v := bt none 0 0 false) (by first | (simp [results, Try.results32, go_sem, *]; done) | (simp only [results, Try.results32]; go_simp; done)) rfl ⟨rfl, ?_⟩
  (repeat' (first | (with_reducible exact Below.refl _ _) | (with_reducible assumption) | (with_reducible refine Below.alloc ?_ ?_ _) | (with_reducible refine Below.drew ?_) | (with_reducible refine below_drewN ?_ _) | (with_reducible refine Below.setCell ?_ ?_ _) | (with_reducible refine chain ?_ (by assumption) ?_) | omega | (simp; done) | (simp; omega)))

set_option maxRecDepth 100000 in
set_option maxHeartbeats 4000000 in
theorem mb_s_2 {g0 h0 n m : Nat} {xs ys : List D5} {w : World} (hA : Rd w (some ⟨g0, 0, none⟩) xs) (hB : Rd w (some ⟨h0, 0, none⟩) ys) (hn : xs.length = n) (hm : ys.length = m) (hb : n ≤ 1048576) (hb2 : m ≤ 1048576) (h1 : okBl n xs = true) (h2 : okBl m ys = false) :
    Calls Try.prog 32 #[bv (some ⟨g0, 0, none⟩) n n, bv (some ⟨h0, 0, none⟩) m m] w fun ee w' => ee = .returned (bt none 0 0 false) ∧ Below w.heap.size w w' := by
  have HA := hid hA
  have HB := hid hB
  have HN := hid hn
  have HM := hid hm
  have hl : 0 < n → g0 < w.heap.size := fun h => hA.ltA (by omega) _ rfl
  have hl2 : 0 < m → h0 < w.heap.size := fun h => hB.ltA (by omega) _ rfl
  have HL := hid hl
  have HL2 := hid hl2
  have H1 := hid h1
  have H2 := hid h2
  clear hA hB hn hm hl hl2 h1 h2
  go_enter Try.func32, Try.ntmps32
  go_upto_region 1 with (fail)
  obtain ⟨W, hW⟩ : ∃ W : World, W = ((w.alloc (.cells #[.slice (some ⟨g0, 0, none⟩) n n] 51)).alloc (.cells #[.slice (some ⟨h0, 0, none⟩) m m] 51)).alloc (.cells #[.slice none 0 0] 51) := ⟨_, rfl⟩
  have hBW : Below w.heap.size w W := by rw [hW]; exact (((Below.refl _ _).alloc (Nat.le_refl _) _).alloc (by simp) _).alloc (by simp; omega) _
  have XA : Hid (Bx W w.heap.size 51 #[.slice (some ⟨g0, 0, none⟩) n n]) := by rw [hW]; exact ((Bx.new rfl).alloc _).alloc _
  have XB : Hid (Bx W (w.heap.size + 1) 51 #[.slice (some ⟨h0, 0, none⟩) m m]) := by rw [hW]; exact (Bx.new (by simp)).alloc _
  have XR : Hid (Bx W (w.heap.size + 1 + 1) 51 #[.slice none 0 0]) := by rw [hW]; exact Bx.new (by simp)
  have hzW : w.heap.size + 1 + 1 < W.heap.size := by rw [hW]; simp
  rw [← hW]
  clear hW
  have a0 := XA.out.c 0 rfl
  go_wp2_with (fail)
  refine (lv_s (xs := xs) ?_ HN.out hb (fun h => by have := HL.out h; have := hBW.size; omega)).mono ?_
  · exact HA.out.mono hBW
  rw [H1.out]
  rintro ee w1 ⟨rfl, hb1⟩
  clear a0
  have hBw1 : Below w.heap.size w w1 := chain hBW hb1 hBW.size
  have hzw1 := hb1.size
  replace XA := hid (XA.out.mono hb1)
  replace XB := hid (XB.out.mono hb1)
  replace XR := hid (XR.out.mono hb1)
  have a0 := XB.out.c 0 rfl
  go_wp2_with (fail)
  refine (lv_s (xs := ys) ?_ HM.out hb2 (fun h => by have := HL2.out h; have := hBw1.size; omega)).mono ?_
  · exact HB.out.mono hBw1
  rw [H2.out]
  rintro ee w2 ⟨rfl, hb2x⟩
  clear a0
  have hBw2 : Below w.heap.size w w2 := chain hBw1 hb2x hBw1.size
  have hzw2 := hb2x.size
  replace XA := hid (XA.out.mono hb2x)
  replace XB := hid (XB.out.mono hb2x)
  replace XR := hid (XR.out.mono hb2x)
  have r0 := XR.out.c 0 rfl
  have rf := XR.out.f
  have rl := XR.out.lt
  go_upto_region 2 with (fail)
  go_wp2_with (fail)
  refine bodyPost_ret (v := bt none 0 0 false) (by first | (simp [results, Try.results32, go_sem, *]; done) | (simp only [results, Try.results32]; go_simp; done)) rfl ⟨rfl, ?_⟩
  (repeat' (first | (with_reducible exact Below.refl _ _) | (with_reducible assumption) | (with_reducible refine Below.alloc ?_ ?_ _) | (with_reducible refine Below.drew ?_) | (with_reducible refine below_drewN ?_ _) | (with_reducible refine Below.setCell ?_ ?_ _) | (with_reducible refine chain ?_ (by assumption) ?_) | omega | (simp; done) | (simp; omega)))

set_option maxRecDepth 100000 in
set_option maxHeartbeats 8000000 in
theorem mb_s_3 {g0 h0 n m : Nat} {xs ys : List D5} {w : World} (hA : Rd w (some ⟨g0, 0, none⟩) xs) (hB : Rd w (some ⟨h0, 0, none⟩) ys) (hn : xs.length = n) (hm : ys.length = m) (hb : n ≤ 1048576) (hb2 : m ≤ 1048576) (h1 : okBl n xs = true) (h2 : okBl m ys = true) (hany : anyB 9 (mmG 3 3 xs ys) = true) :
    Calls Try.prog 32 #[bv (some ⟨g0, 0, none⟩) n n, bv (some ⟨h0, 0, none⟩) m m] w fun ee w' => ee = .returned (bt none 0 0 false) ∧ Below w.heap.size w w' := by
  obtain ⟨n9, hr⟩ := okBl_iff h1
  obtain ⟨m9, hr2⟩ := okBl_iff h2
  subst n9 m9
  have HA := hid hA
  have HB := hid hB
  have HN := hid hn
  have HM := hid hm
  have hl : 0 < 9 → g0 < w.heap.size := fun h => hA.ltA (by omega) _ rfl
  have hl2 : 0 < 9 → h0 < w.heap.size := fun h => hB.ltA (by omega) _ rfl
  have HL := hid hl
  have HL2 := hid hl2
  have H1 := hid h1
  have H2 := hid h2
  have HK := hid (allR_B hr)
  have HK2 := hid (allR_B hr2)
  have HANY := hid hany
  clear hA hB hn hm hl hl2 h1 h2 hr hr2 hany
  go_enter Try.func32, Try.ntmps32
  go_upto_region 1 with (fail)
  obtain ⟨W, hW⟩ : ∃ W : World, W = ((w.alloc (.cells #[.slice (some ⟨g0, 0, none⟩) 9 9] 51)).alloc (.cells #[.slice (some ⟨h0, 0, none⟩) 9 9] 51)).alloc (.cells #[.slice none 0 0] 51) := ⟨_, rfl⟩
  have hBW : Below w.heap.size w W := by rw [hW]; exact (((Below.refl _ _).alloc (Nat.le_refl _) _).alloc (by simp) _).alloc (by simp; omega) _
  have XA : Hid (Bx W w.heap.size 51 #[.slice (some ⟨g0, 0, none⟩) 9 9]) := by rw [hW]; exact ((Bx.new rfl).alloc _).alloc _
  have XB : Hid (Bx W (w.heap.size + 1) 51 #[.slice (some ⟨h0, 0, none⟩) 9 9]) := by rw [hW]; exact (Bx.new (by simp)).alloc _
  have XR : Hid (Bx W (w.heap.size + 1 + 1) 51 #[.slice none 0 0]) := by rw [hW]; exact Bx.new (by simp)
  have hzW : w.heap.size + 1 + 1 < W.heap.size := by rw [hW]; simp
  rw [← hW]
  clear hW
  have a0 := XA.out.c 0 rfl
  go_wp2_with (fail)
  refine (lv_s (xs := xs) ?_ HN.out hb (fun h => by have := HL.out h; have := hBW.size; omega)).mono ?_
  · exact HA.out.mono hBW
  rw [H1.out]
  rintro ee w1 ⟨rfl, hb1⟩
  clear a0
  have hBw1 : Below w.heap.size w w1 := chain hBW hb1 hBW.size
  have hzw1 := hb1.size
  replace XA := hid (XA.out.mono hb1)
  replace XB := hid (XB.out.mono hb1)
  replace XR := hid (XR.out.mono hb1)
  have a0 := XB.out.c 0 rfl
  go_wp2_with (fail)
  refine (lv_s (xs := ys) ?_ HM.out hb2 (fun h => by have := HL2.out h; have := hBw1.size; omega)).mono ?_
  · exact HB.out.mono hBw1
  rw [H2.out]
  rintro ee w2 ⟨rfl, hb2x⟩
  clear a0
  have hBw2 : Below w.heap.size w w2 := chain hBw1 hb2x hBw1.size
  have hzw2 := hb2x.size
  replace XA := hid (XA.out.mono hb2x)
  replace XB := hid (XB.out.mono hb2x)
  replace XR := hid (XR.out.mono hb2x)
  have a0 := XA.out.c 0 rfl
  have b0 := XB.out.c 0 rfl
  have lA := XA.out.lt
  have lB := XB.out.lt
  have lR := XR.out.lt
  have hg := HL.out (by decide)
  have hh := HL2.out (by decide)
  go_wp2_with (fail)
  obtain ⟨w3, hw3⟩ : ∃ w3 : World, w3 = w2.alloc (.cells #[.bool false] 116) := ⟨_, rfl⟩
  have XC : Hid (Bx w3 w2.heap.size 116 #[.bool false]) := by rw [hw3]; exact Bx.new rfl
  have hb3 : Below w2.heap.size w2 w3 := by rw [hw3]; exact (Below.refl _ _).alloc (Nat.le_refl _) _
  rw [← hw3]
  clear hw3 a0 b0
  replace XA := hid (XA.out.mono hb3)
  replace XB := hid (XB.out.mono hb3)
  replace XR := hid (XR.out.mono hb3)
  have hBw3 : Below w.heap.size w w3 := chain hBw2 hb3 hBw2.size
  have hsW := hBW.size
  have hs1 := hBw1.size
  have hs2 := hBw2.size
  have hs3 := hBw3.size
  have hs23 := hb3.size
  refine (blm (gc := w2.heap.size) (xs := xs) (ys := ys) (HA.out.mono hBw3) (HB.out.mono hBw3) HN.out HM.out HK.out HK2.out XC.out (by omega) (by omega)).mono ?_
  rintro ee w4 hBM
  obtain ⟨z, zs, Bo, cq, rfl, hS, hR, hlo, hb4⟩ := hBM
  have hz4 := bad_size hb4
  have hBw4 : Below w.heap.size w w4 := bad_below hBw3 hb4 (by omega)
  replace XR := hid (XR.out.badly hb4 (by omega))
  replace XC := hid (Bx.bad XC.out hb4)
  have HR := hid hR
  have HLO := hid hlo
  have HZ : Hid (z = true) := hid (by rw [hS.2.1]; exact HANY.out)
  have HZS := hid hS.2.2
  clear hR hlo hb4 hS XA XB
  have ez := HZ.out
  subst ez
  have c0 := XC.out.c 0 rfl
  have lC := XC.out.lt
  have r0 := XR.out.c 0 rfl
  have rf := XR.out.f
  have rl := XR.out.lt
  go_upto_region 6 with (fail)
  go_wp2_with (fail)
  refine bodyPost_ret (v := bt none 0 0 false) (by first | (simp [results, Try.results32, go_sem, *]; done) | (simp only [results, Try.results32]; go_simp; done)) rfl ⟨rfl, ?_⟩
  (repeat' (first | (with_reducible exact Below.refl _ _) | (with_reducible assumption) | (with_reducible refine Below.alloc ?_ ?_ _) | (with_reducible refine Below.drew ?_) | (with_reducible refine below_drewN ?_ _) | (with_reducible refine Below.setCell ?_ ?_ _) | (with_reducible refine chain ?_ (by assumption) ?_) | omega | (simp; done) | (simp; omega)))

set_option maxRecDepth 100000 in
set_option maxHeartbeats 8000000 in
theorem mb_s_4 {g0 h0 n m : Nat} {xs ys : List D5} {w : World} (hA : Rd w (some ⟨g0, 0, none⟩) xs) (hB : Rd w (some ⟨h0, 0, none⟩) ys) (hn : xs.length = n) (hm : ys.length = m) (hb : n ≤ 1048576) (hb2 : m ≤ 1048576) (h1 : okBl n xs = true) (h2 : okBl m ys = true) (hany : anyB 9 (mmG 3 3 xs ys) = false) :
    Calls Try.prog 32 #[bv (some ⟨g0, 0, none⟩) n n, bv (some ⟨h0, 0, none⟩) m m] w fun ee w' => ∃ A cp, ee = .returned (bt A 9 cp true) ∧ (Rd w' A (tab 9 (mmF 3 3 xs ys)) ∧ (∀ a, A = some a → w.heap.size ≤ a.block)) ∧ Below w.heap.size w w' := by
  obtain ⟨n9, hr⟩ := okBl_iff h1
  obtain ⟨m9, hr2⟩ := okBl_iff h2
  subst n9 m9
  have HA := hid hA
  have HB := hid hB
  have HN := hid hn
  have HM := hid hm
  have hl : 0 < 9 → g0 < w.heap.size := fun h => hA.ltA (by omega) _ rfl
  have hl2 : 0 < 9 → h0 < w.heap.size := fun h => hB.ltA (by omega) _ rfl
  have HL := hid hl
  have HL2 := hid hl2
  have H1 := hid h1
  have H2 := hid h2
  have HK := hid (allR_B hr)
  have HK2 := hid (allR_B hr2)
  have HANY := hid hany
  clear hA hB hn hm hl hl2 h1 h2 hr hr2 hany
  go_enter Try.func32, Try.ntmps32
  go_upto_region 1 with (fail)
  obtain ⟨W, hW⟩ : ∃ W : World, W = ((w.alloc (.cells #[.slice (some ⟨g0, 0, none⟩) 9 9] 51)).alloc (.cells #[.slice (some ⟨h0, 0, none⟩) 9 9] 51)).alloc (.cells #[.slice none 0 0] 51) := ⟨_, rfl⟩
  have hBW : Below w.heap.size w W := by rw [hW]; exact (((Below.refl _ _).alloc (Nat.le_refl _) _).alloc (by simp) _).alloc (by simp; omega) _
  have XA : Hid (Bx W w.heap.size 51 #[.slice (some ⟨g0, 0, none⟩) 9 9]) := by rw [hW]; exact ((Bx.new rfl).alloc _).alloc _
  have XB : Hid (Bx W (w.heap.size + 1) 51 #[.slice (some ⟨h0, 0, none⟩) 9 9]) := by rw [hW]; exact (Bx.new (by simp)).alloc _
  have XR : Hid (Bx W (w.heap.size + 1 + 1) 51 #[.slice none 0 0]) := by rw [hW]; exact Bx.new (by simp)
  have hzW : w.heap.size + 1 + 1 < W.heap.size := by rw [hW]; simp
  rw [← hW]
  clear hW
  have a0 := XA.out.c 0 rfl
  go_wp2_with (fail)
  refine (lv_s (xs := xs) ?_ HN.out hb (fun h => by have := HL.out h; have := hBW.size; omega)).mono ?_
  · exact HA.out.mono hBW
  rw [H1.out]
  rintro ee w1 ⟨rfl, hb1⟩
  clear a0
  have hBw1 : Below w.heap.size w w1 := chain hBW hb1 hBW.size
  have hzw1 := hb1.size
  replace XA := hid (XA.out.mono hb1)
  replace XB := hid (XB.out.mono hb1)
  replace XR := hid (XR.out.mono hb1)
  have a0 := XB.out.c 0 rfl
  go_wp2_with (fail)
  refine (lv_s (xs := ys) ?_ HM.out hb2 (fun h => by have := HL2.out h; have := hBw1.size; omega)).mono ?_
  · exact HB.out.mono hBw1
  rw [H2.out]
  rintro ee w2 ⟨rfl, hb2x⟩
  clear a0
  have hBw2 : Below w.heap.size w w2 := chain hBw1 hb2x hBw1.size
  have hzw2 := hb2x.size
  replace XA := hid (XA.out.mono hb2x)
  replace XB := hid (XB.out.mono hb2x)
  replace XR := hid (XR.out.mono hb2x)
  have a0 := XA.out.c 0 rfl
  have b0 := XB.out.c 0 rfl
  have lA := XA.out.lt
  have lB := XB.out.lt
  have lR := XR.out.lt
  have hg := HL.out (by decide)
  have hh := HL2.out (by decide)
  go_wp2_with (fail)
  obtain ⟨w3, hw3⟩ : ∃ w3 : World, w3 = w2.alloc (.cells #[.bool false] 116) := ⟨_, rfl⟩
  have XC : Hid (Bx w3 w2.heap.size 116 #[.bool false]) := by rw [hw3]; exact Bx.new rfl
  have hb3 : Below w2.heap.size w2 w3 := by rw [hw3]; exact (Below.refl _ _).alloc (Nat.le_refl _) _
  rw [← hw3]
  clear hw3 a0 b0
  replace XA := hid (XA.out.mono hb3)
  replace XB := hid (XB.out.mono hb3)
  replace XR := hid (XR.out.mono hb3)
  have hBw3 : Below w.heap.size w w3 := chain hBw2 hb3 hBw2.size
  have hsW := hBW.size
  have hs1 := hBw1.size
  have hs2 := hBw2.size
  have hs3 := hBw3.size
  have hs23 := hb3.size
  refine (blm (gc := w2.heap.size) (xs := xs) (ys := ys) (HA.out.mono hBw3) (HB.out.mono hBw3) HN.out HM.out HK.out HK2.out XC.out (by omega) (by omega)).mono ?_
  rintro ee w4 hBM
  obtain ⟨z, zs, Bo, cq, rfl, hS, hR, hlo, hb4⟩ := hBM
  have hz4 := bad_size hb4
  have hBw4 : Below w.heap.size w w4 := bad_below hBw3 hb4 (by omega)
  replace XR := hid (XR.out.badly hb4 (by omega))
  replace XC := hid (Bx.bad XC.out hb4)
  have HR := hid hR
  have HLO := hid hlo
  have HZ : Hid (z = false) := hid (by rw [hS.2.1]; exact HANY.out)
  have HZS := hid hS.2.2
  clear hR hlo hb4 hS XA XB
  have ez := HZ.out
  subst ez
  have c0 := XC.out.c 0 rfl
  have lC := XC.out.lt
  have r0 := XR.out.c 0 rfl
  have rf := XR.out.f
  have rl := XR.out.lt
  go_upto_region 7 with (fail)
  (repeat (first | go_values | go_skip | go_guarded | go_step | go_upon))
  refine bodyPost_ret (v := bt Bo 9 cq true) (by first | (simp only [results, Try.results32]; go_simp; done) | (simp [results, Try.results32, go_sem, *]; done)) rfl ⟨Bo, cq, rfl, ⟨?_, fun a ha => by have := HLO.out a ha; omega⟩, ?_⟩
  · rw [← (show zs = tab 9 (mmF 3 3 xs ys) by first | exact HZS.out rfl | exact HZS.out trivial)]
    exact (HR.out.far (p := ⟨w.heap.size + 1 + 1, 0, none⟩) (fun a ha => by have := HLO.out a ha; show a.block ≠ w.heap.size + 1 + 1; omega) _).mono ((Below.refl _ _).alloc (Nat.le_refl _) _)
  · (repeat' (first | (with_reducible exact Below.refl _ _) | (with_reducible assumption) | (with_reducible refine Below.alloc ?_ ?_ _) | (with_reducible refine Below.drew ?_) | (with_reducible refine below_drewN ?_ _) | (with_reducible refine Below.setCell ?_ ?_ _) | (with_reducible refine chain ?_ (by assumption) ?_) | omega | (simp; done) | (simp; omega)))


end Go.Proofs.Ytofclfgaekjonaa
