/- OrderOf: the program. -/
import Derived.Test.YtjedpeoafpljhaaZeq
import Derived.Test.YtjedpeoafpljhaaE8d
import Derived.Test.YtjedpeoafpljhaaPco
import Derived.Deep.DeepCutAuto
namespace Go.Proofs.Ytjedpeoafpljhaa.C4
open Go.RowKit
set_option linter.unusedVariables false
set_option linter.unusedSimpArgs false
attribute [local irreducible] World.setCell

section
variable {P : Program} {ops : Array Oper} {Q : Exit → Act → World → Prop} {md : Region.Mode} {S : World → Prop} {L : Nat}
/-- Three may come up. -/
theorem wpAnyX_three {i j k : Nat} {oi oj ok : Oper} {fuel : Nat} {listed : Array Bool} {a : Act} {w : World} (hi : ops[i]? = some oi) (hj : ops[j]? = some oj) (hk : ops[k]? = some ok) (hr : Region.ready md ops listed = [i, j, k])
    (h1 : ∀ K' : Act → World → Prop, Shut (∀ a w, (i ≠ L → S w) → ((i ≠ L → S w) → wpAnyX P md ops Q S L fuel (listed.setIfInBounds i true) a w) → K' a w) → if Region.wanted oi (yielded ops a.tmps) = true then Oper.wp P oi a w K' Q else K' (a.put oi.dst undef) w)
    (h2 : ∀ K' : Act → World → Prop, Shut (∀ a w, (j ≠ L → S w) → ((j ≠ L → S w) → wpAnyX P md ops Q S L fuel (listed.setIfInBounds j true) a w) → K' a w) → if Region.wanted oj (yielded ops a.tmps) = true then Oper.wp P oj a w K' Q else K' (a.put oj.dst undef) w)
    (h3 : ∀ K' : Act → World → Prop, Shut (∀ a w, (k ≠ L → S w) → ((k ≠ L → S w) → wpAnyX P md ops Q S L fuel (listed.setIfInBounds k true) a w) → K' a w) → if Region.wanted ok (yielded ops a.tmps) = true then Oper.wp P ok a w K' Q else K' (a.put ok.dst undef) w) :
    wpAnyX P md ops Q S L (fuel + 1) listed a w := by
  refine ⟨fun h0 => (by rw [hr] at h0; cases h0), fun q hq => ?_⟩
  rw [hr] at hq
  simp only [List.mem_cons, List.not_mem_nil, or_false] at hq
  rcases hq with rfl | rfl | rfl
  · exact wpOp_step hi (fun K' hK => h1 K' (fun a w hS hW => hK a w ⟨hS, hW hS⟩))
  · exact wpOp_step hj (fun K' hK => h2 K' (fun a w hS hW => hK a w ⟨hS, hW hS⟩))
  · exact wpOp_step hk (fun K' hK => h3 K' (fun a w hS hW => hK a w ⟨hS, hW hS⟩))
end
theorem PhM.alloc {m r : Nat} {W : World} (h : PhM m W r) (o : Obj) : PhM m (W.alloc o) r := h.mono ((Below.refl _ _).alloc (Nat.le_refl _) _)
theorem Bb.set3 {W : World} {b : Nat} {t : TypeId} {x y z v0 v1 v2 : Value} (h : Bb W b t #[x, y, z]) : Bb (((W.setCell ⟨b, 0, none⟩ v0).setCell ⟨b, 1, none⟩ v1).setCell ⟨b, 2, none⟩ v2) b t #[v0, v1, v2] := ((h.set rfl).set rfl).set rfl
theorem PhM.low {W W' : World} {k r : Nat} (h : W.heap.size ≤ r) (hk : k < W.heap.size) : k ≠ r := by omega
set_option maxRecDepth 100000 in
set_option maxHeartbeats 8000000 in
theorem ori_t {n g h c1 c2 : Nat} {xs zs : List PauliV} {r0 : Int} {r1 : Bool} {w : World} (q1 : 1 ≤ n) (q5 : n ≤ 5) (ht : TOk (n : Int) n n xs zs) (hr : ordA n xs zs r0 r1) (hA : Rd pauliE w (some ⟨g, 0, none⟩) xs) (hB : Rd pauliE w (some ⟨h, 0, none⟩) zs) (hn : xs.length = n) (hm : zs.length = n) :
    Calls Try.prog 55 #[tableauV (n : Int) (some ⟨g, 0, none⟩) n c1 (some ⟨h, 0, none⟩) n c2] w fun ee w' => ee = .returned (.tuple #[.int .i64 r0, .bool r1]) ∧ Below w.heap.size w w' := by
  have HTT := lay ht
  obtain ⟨oX, oZ⟩ := TOk_L ((TOk_m q1 q5 hn hm).1 ht) hn hm
  have OX := lay oX
  have OZ := lay oZ
  have HA := lay hA
  have HB := lay hB
  have HR := lay hr
  have hml : n ≤ maxLen := by unfold maxLen; omega
  have hgw : g < w.heap.size := by
    obtain ⟨x, hx⟩ : ∃ x, xs[0]? = some x := ⟨_, List.getElem?_eq_getElem (by omega)⟩
    obtain ⟨g', o', e, hl, -⟩ := hA.atPauli hx
    cases e; exact hl
  have hhw : h < w.heap.size := by
    obtain ⟨x, hx⟩ : ∃ x, zs[0]? = some x := ⟨_, List.getElem?_eq_getElem (by omega)⟩
    obtain ⟨g', o', e, hl, -⟩ := hB.atPauli hx
    cases e; exact hl
  clear ht oX oZ hA hB hr
  go_enter Try.func55, Try.ntmps55
  go_wp2_with (fail)
  refine (ivt_i (t := true) (xs := xs) (zs := zs) ⟨fun _ => HTT.out, fun _ => rfl⟩ ?_ ?_ hn hm hml hml).mono ?_
  · exact HA.out.mono (by (repeat' (first | (with_reducible exact Below.refl _ _) | (with_reducible assumption) | (with_reducible refine Below.alloc ?_ ?_ _) | (with_reducible refine Below.drew ?_) | (with_reducible refine bdN ?_ _) | (with_reducible refine Below.setCell ?_ ?_ _) | (with_reducible refine chn ?_ (by assumption) ?_) | omega | (simp; done) | (simp; omega))))
  · exact HB.out.mono (by (repeat' (first | (with_reducible exact Below.refl _ _) | (with_reducible assumption) | (with_reducible refine Below.alloc ?_ ?_ _) | (with_reducible refine Below.drew ?_) | (with_reducible refine bdN ?_ _) | (with_reducible refine Below.setCell ?_ ?_ _) | (with_reducible refine chn ?_ (by assumption) ?_) | omega | (simp; done) | (simp; omega))))
  rintro ee w1 ⟨rfl, hb1⟩
  have hz1 := hb1.size
  (try simp only [World.size_alloc] at hz1)
  have Xt : Hid (Bb w1 (w.heap.size) 53 #[.int .i64 (n : Int), .slice (some ⟨g, 0, none⟩) n c1, .slice (some ⟨h, 0, none⟩) n c2]) := by show Bb _ _ _ _; (repeat' (first | (with_reducible assumption) | (refine Bb.new (by first | (with_reducible rfl) | (simp; done))) | (with_reducible refine Bb.alloc ?_ _) | (with_reducible refine Bb.drew ?_) | (with_reducible refine Bb.drewN ?_ _) | (with_reducible refine Bb.mono ?_ (by assumption)) | (with_reducible refine Bb.far ?_ (by (try simp only [World.size_alloc, World.size_drew]); omega)) | (with_reducible refine Bb.set ?_ rfl) | (with_reducible refine Bb.grown ?_ (by assumption) (by assumption))))
  have hB1 : Below w.heap.size w w1 := by (repeat' (first | (with_reducible exact Below.refl _ _) | (with_reducible assumption) | (with_reducible refine Below.alloc ?_ ?_ _) | (with_reducible refine Below.drew ?_) | (with_reducible refine bdN ?_ _) | (with_reducible refine Below.setCell ?_ ?_ _) | (with_reducible refine chn ?_ (by assumption) ?_) | omega | (simp; done) | (simp; omega)))
  have Xtw1 := Xt.out
  clear hb1
  have ct0 := Xt.out.c 0 rfl
  have ct1 := Xt.out.c 1 rfl
  have ct2 := Xt.out.c 2 rfl
  have lt := Xt.out.lt
  go_wp2_with (fail)
  go_cut [4, 5, 6] (fun s4 s5 s6 wx => ∃ p r q gx gz : Nat, s4 = .pointer (some ⟨p, 0, none⟩) ∧ s5 = .map (some r) ∧ s6 = .pointer (some ⟨q, 0, none⟩) ∧ Hid (Bb wx (w.heap.size) 53 #[.int .i64 (n : Int), .slice (some ⟨g, 0, none⟩) n c1, .slice (some ⟨h, 0, none⟩) n c2]) ∧ Hid (Bb wx (p) 53 #[.int .i64 (n : Int), .slice (some ⟨gx, 0, none⟩) n n, .slice (some ⟨gz, 0, none⟩) n n]) ∧ Hid (Bb wx (q) 53 #[.int .i64 (n : Int), .slice (some ⟨g, 0, none⟩) n c1, .slice (some ⟨h, 0, none⟩) n c2]) ∧ Hid (Bk pauliE wx gx 43 (tab n genX)) ∧ Hid (Bk pauliE wx gz 43 (tab n genZ)) ∧ Hid (PhM 63 wx r) ∧ w1.heap.size ≤ p ∧ w1.heap.size ≤ q ∧ w1.heap.size ≤ gx ∧ w1.heap.size ≤ gz ∧ q ≠ p ∧ q ≠ gx ∧ q ≠ gz ∧ q ≠ r ∧ Below w.heap.size w wx)
  case first =>
    have yct0 : w1.drew.cell? ⟨w.heap.size, 0, none⟩ = some (.int .i64 (n : Int)) := ct0
    have yct1 : w1.drew.cell? ⟨w.heap.size, 1, none⟩ = some (.slice (some ⟨g, 0, none⟩) n c1) := ct1
    have yct2 : w1.drew.cell? ⟨w.heap.size, 2, none⟩ = some (.slice (some ⟨h, 0, none⟩) n c2) := ct2
    refine wp_region_x (fun w' => w'.cell? ⟨w.heap.size, 0, none⟩ = some (.int .i64 (n : Int)) ∧ w'.cell? ⟨w.heap.size, 1, none⟩ = some (.slice (some ⟨g, 0, none⟩) n c1) ∧ w'.cell? ⟨w.heap.size, 2, none⟩ = some (.slice (some ⟨h, 0, none⟩) n c2)) 1000 (by kernel_rfl) ⟨yct0, yct1, yct2⟩ (fun hS0 => ?_)
    refine wpAnyX_take (i := 0) (oi := _) (v := ?_) rfl (by kernel_rfl) (by kernel_rfl) (by kernel_rfl) (by kernel_rfl) (fun _ _ _ h => h) (Or.inl ⟨by rfl, ?_⟩) hS0 ?_
    rotate_left 1
    · (intro w hSw; (try dsimp only at hSw); go_simp; (try with_reducible rfl))
    try simp only [Act.put, List.setIfInBounds_toArray, List.set_cons_zero, List.set_cons_succ]
    refine wpAnyX_take (i := 1) (oi := _) (v := ?_) rfl (by kernel_rfl) (by kernel_rfl) (by kernel_rfl) (by kernel_rfl) (fun _ _ _ h => h) (Or.inl ⟨by rfl, ?_⟩) hS0 ?_
    rotate_left 1
    · (intro w hSw; (try dsimp only at hSw); go_simp; (try with_reducible rfl))
    try simp only [Act.put, List.setIfInBounds_toArray, List.set_cons_zero, List.set_cons_succ]
    refine wpAnyX_take (i := 4) (oi := _) (v := ?_) rfl (by kernel_rfl) (by kernel_rfl) (by kernel_rfl) (by kernel_rfl) (fun _ _ _ h => h) (Or.inl ⟨by rfl, ?_⟩) hS0 ?_
    rotate_left 1
    · (intro w hSw; (try dsimp only at hSw); go_simp; (try with_reducible rfl))
    try simp only [Act.put, List.setIfInBounds_toArray, List.set_cons_zero, List.set_cons_succ]
    refine wpAnyX_three (i := 2) (j := 5) (k := 6) (oi := _) (oj := _) (ok := _) rfl rfl rfl (by kernel_rfl) (fun K hK => ?_) (fun K hK => ?_) (fun K hK => ?_)
    · go_simp
      refine (idt q1 q5 _).mono ?_
      rintro ee wA ⟨gx, gz, rfl, hK1, hK2, l1, l2, hne, hbA⟩
      have kA : Below (w1).heap.size (w1) wA := ⟨hbA.os, hbA.tape, hbA.output, hbA.size, hbA.block⟩
      have hzA := hbA.size
      (try simp only [World.size_alloc, World.size_drew] at hzA l1 l2)
      have hBwA : Below w.heap.size w wA := by (repeat' (first | (with_reducible exact Below.refl _ _) | (with_reducible assumption) | (with_reducible refine Below.alloc ?_ ?_ _) | (with_reducible refine Below.drew ?_) | (with_reducible refine bdN ?_ _) | (with_reducible refine Below.setCell ?_ ?_ _) | (with_reducible refine chn ?_ (by assumption) ?_) | omega | (simp; done) | (simp; omega)))
      have XtwA : Bb wA w.heap.size 53 #[.int .i64 (n : Int), .slice (some ⟨g, 0, none⟩) n c1, .slice (some ⟨h, 0, none⟩) n c2] := (Xt.out).mono kA
      have GxwA := hK1
      have GzwA := hK2
      have lgx := hK1.lt
      have lgz := hK2.lt
      clear hK1 hK2
      clear hbA kA
      refine hK.out _ _ (fun _ => ?_) (fun hS1 => ?_)
      · exact ⟨XtwA.c 0 rfl, XtwA.c 1 rfl, XtwA.c 2 rfl⟩
      clear hK K
      have hS1 := hS1 (by decide)
      try simp only [Act.put, List.setIfInBounds_toArray, List.set_cons_zero, List.set_cons_succ]
      refine wpAnyX_three (i := 3) (j := 5) (k := 6) (oi := _) (oj := _) (ok := _) rfl rfl rfl (by kernel_rfl) (fun K hK => ?_) (fun K hK => ?_) (fun K hK => ?_)
      · go_simp
        refine (nlp _).mono ?_
        rintro ee wB ⟨r, rfl, hPh, l3, hbB⟩
        have kB : Below (wA).heap.size (wA) wB := ⟨hbB.os, hbB.tape, hbB.output, hbB.size, hbB.block⟩
        have hzB := hbB.size
        (try simp only [World.size_alloc, World.size_drew] at hzB l3)
        have hBwB : Below w.heap.size w wB := by (repeat' (first | (with_reducible exact Below.refl _ _) | (with_reducible assumption) | (with_reducible refine Below.alloc ?_ ?_ _) | (with_reducible refine Below.drew ?_) | (with_reducible refine bdN ?_ _) | (with_reducible refine Below.setCell ?_ ?_ _) | (with_reducible refine chn ?_ (by assumption) ?_) | omega | (simp; done) | (simp; omega)))
        have XtwB : Bb wB w.heap.size 53 #[.int .i64 (n : Int), .slice (some ⟨g, 0, none⟩) n c1, .slice (some ⟨h, 0, none⟩) n c2] := (XtwA).mono kB
        have GxwB : Bk pauliE wB gx 43 (tab n genX) := (GxwA).mono kB
        have GzwB : Bk pauliE wB gz 43 (tab n genZ) := (GzwA).mono kB
        have PhwB := hPh
        clear hPh
        have lr := PhwB.lt
        clear hbB kB
        refine hK.out _ _ (fun _ => ?_) (fun hS2 => ?_)
        · exact ⟨XtwB.c 0 rfl, XtwB.c 1 rfl, XtwB.c 2 rfl⟩
        clear hK K
        have hS2 := hS2 (by decide)
        try simp only [Act.put, List.setIfInBounds_toArray, List.set_cons_zero, List.set_cons_succ]
        refine wpAnyX_two (i := 5) (j := 6) (oi := _) (oj := _) rfl rfl (by kernel_rfl) (fun K hK => ?_) (fun K hK => ?_)
        · go_simp
          refine hK.out _ _ (fun _ => ?_) (fun hS3 => ?_)
          · (refine ⟨Bb.c (b := w.heap.size) (t := 53) (cs := #[.int .i64 (n : Int), .slice (some ⟨g, 0, none⟩) n c1, .slice (some ⟨h, 0, none⟩) n c2]) ?_ 0 rfl, Bb.c (b := w.heap.size) (t := 53) (cs := #[.int .i64 (n : Int), .slice (some ⟨g, 0, none⟩) n c1, .slice (some ⟨h, 0, none⟩) n c2]) ?_ 1 rfl, Bb.c (b := w.heap.size) (t := 53) (cs := #[.int .i64 (n : Int), .slice (some ⟨g, 0, none⟩) n c1, .slice (some ⟨h, 0, none⟩) n c2]) ?_ 2 rfl⟩ <;> (show Bb _ _ _ _; (repeat' (first | (with_reducible assumption) | (with_reducible refine Bb.alloc ?_ _) | (with_reducible refine Bb.drew ?_) | (with_reducible refine Bb.drewN ?_ _) | (refine Bb.set3 (x := .int .i64 0) (y := .slice none 0 0) (z := .slice none 0 0) ?_) | (with_reducible refine Bb.far ?_ (by (try simp only [World.size_alloc, World.size_drew]); omega)) | (with_reducible refine Bb.set ?_ rfl) | (with_reducible refine Bb.grown ?_ (by assumption) (by assumption))))))
          clear hK K
          have hS3 := hS3 (by decide)
          try simp only [Act.put, List.setIfInBounds_toArray, List.set_cons_zero, List.set_cons_succ]
          refine wpAnyX_one (i := 6) (o := _) rfl (by kernel_rfl) (fun K hK => ?_)
          go_simp
          refine hK.out _ _ (fun _ => ?_) (fun hS4 => ?_)
          · (refine ⟨Bb.c (b := w.heap.size) (t := 53) (cs := #[.int .i64 (n : Int), .slice (some ⟨g, 0, none⟩) n c1, .slice (some ⟨h, 0, none⟩) n c2]) ?_ 0 rfl, Bb.c (b := w.heap.size) (t := 53) (cs := #[.int .i64 (n : Int), .slice (some ⟨g, 0, none⟩) n c1, .slice (some ⟨h, 0, none⟩) n c2]) ?_ 1 rfl, Bb.c (b := w.heap.size) (t := 53) (cs := #[.int .i64 (n : Int), .slice (some ⟨g, 0, none⟩) n c1, .slice (some ⟨h, 0, none⟩) n c2]) ?_ 2 rfl⟩ <;> (show Bb _ _ _ _; (repeat' (first | (with_reducible assumption) | (with_reducible refine Bb.alloc ?_ _) | (with_reducible refine Bb.drew ?_) | (with_reducible refine Bb.drewN ?_ _) | (refine Bb.set3 (x := .int .i64 0) (y := .slice none 0 0) (z := .slice none 0 0) ?_) | (with_reducible refine Bb.far ?_ (by (try simp only [World.size_alloc, World.size_drew]); omega)) | (with_reducible refine Bb.set ?_ rfl) | (with_reducible refine Bb.grown ?_ (by assumption) (by assumption))))))
          clear hK K
          have hS4 := hS4 (by decide)
          try simp only [Act.put, List.setIfInBounds_toArray, List.set_cons_zero, List.set_cons_succ]
          refine wpAnyX_one (i := 7) (o := _) rfl (by kernel_rfl) (fun K hK => ?_)
          go_simp
          refine hK.out _ _ (fun _ => ?_) (fun hS5 => ?_)
          · (refine ⟨Bb.c (b := w.heap.size) (t := 53) (cs := #[.int .i64 (n : Int), .slice (some ⟨g, 0, none⟩) n c1, .slice (some ⟨h, 0, none⟩) n c2]) ?_ 0 rfl, Bb.c (b := w.heap.size) (t := 53) (cs := #[.int .i64 (n : Int), .slice (some ⟨g, 0, none⟩) n c1, .slice (some ⟨h, 0, none⟩) n c2]) ?_ 1 rfl, Bb.c (b := w.heap.size) (t := 53) (cs := #[.int .i64 (n : Int), .slice (some ⟨g, 0, none⟩) n c1, .slice (some ⟨h, 0, none⟩) n c2]) ?_ 2 rfl⟩ <;> (show Bb _ _ _ _; (repeat' (first | (with_reducible assumption) | (with_reducible refine Bb.alloc ?_ _) | (with_reducible refine Bb.drew ?_) | (with_reducible refine Bb.drewN ?_ _) | (refine Bb.set3 (x := .int .i64 0) (y := .slice none 0 0) (z := .slice none 0 0) ?_) | (with_reducible refine Bb.far ?_ (by (try simp only [World.size_alloc, World.size_drew]); omega)) | (with_reducible refine Bb.set ?_ rfl) | (with_reducible refine Bb.grown ?_ (by assumption) (by assumption))))))
          clear hK K
          have hS5 := hS5 (by decide)
          try simp only [Act.put, List.setIfInBounds_toArray, List.set_cons_zero, List.set_cons_succ]
          refine wpAnyX_take (i := 8) (oi := _) (v := ?_) rfl (by kernel_rfl) (by kernel_rfl) (by kernel_rfl) (by kernel_rfl) (fun _ _ _ h => h) (Or.inl ⟨by rfl, ?_⟩) hS5 ?_
          rotate_left 1
          · (intro w hSw; (try dsimp only at hSw); go_simp; (try with_reducible rfl))
          change wpAnyX _ _ _ _ _ _ _ _ (Act.put _ (some 5) _) _
          try simp only [Act.put, List.setIfInBounds_toArray, List.set_cons_zero, List.set_cons_succ]
          refine wpAnyX_one (i := 9) (o := _) rfl (by kernel_rfl) (fun K hK => ?_)
          go_simp
          refine hK.out _ _ (fun _ => ?_) (fun hS6 => ?_)
          · (refine ⟨Bb.c (b := w.heap.size) (t := 53) (cs := #[.int .i64 (n : Int), .slice (some ⟨g, 0, none⟩) n c1, .slice (some ⟨h, 0, none⟩) n c2]) ?_ 0 rfl, Bb.c (b := w.heap.size) (t := 53) (cs := #[.int .i64 (n : Int), .slice (some ⟨g, 0, none⟩) n c1, .slice (some ⟨h, 0, none⟩) n c2]) ?_ 1 rfl, Bb.c (b := w.heap.size) (t := 53) (cs := #[.int .i64 (n : Int), .slice (some ⟨g, 0, none⟩) n c1, .slice (some ⟨h, 0, none⟩) n c2]) ?_ 2 rfl⟩ <;> (show Bb _ _ _ _; (repeat' (first | (with_reducible assumption) | (with_reducible refine Bb.alloc ?_ _) | (with_reducible refine Bb.drew ?_) | (with_reducible refine Bb.drewN ?_ _) | (refine Bb.set3 (x := .int .i64 0) (y := .slice none 0 0) (z := .slice none 0 0) ?_) | (with_reducible refine Bb.far ?_ (by (try simp only [World.size_alloc, World.size_drew]); omega)) | (with_reducible refine Bb.set ?_ rfl) | (with_reducible refine Bb.grown ?_ (by assumption) (by assumption))))))
          clear hK K
          have hS6 := hS6 (by decide)
          try simp only [Act.put, List.setIfInBounds_toArray, List.set_cons_zero, List.set_cons_succ]
          refine wpAnyX_done (by kernel_rfl) ?_ _
          go_wp2_with (fail)
          go_meet
          refine ⟨wB.heap.size, r, wB.heap.size + 1, gx, gz, rfl, rfl, rfl, ?_, ?_, ?_, ?_, ?_, ?_, by omega, by omega, by omega, by omega, by omega, by omega, by omega, by omega, ?_⟩
          · show Bb _ _ _ _; (repeat' (first | (with_reducible assumption) | (with_reducible refine Bb.alloc ?_ _) | (with_reducible refine Bb.drew ?_) | (with_reducible refine Bb.drewN ?_ _) | (refine Bb.set3 (x := .int .i64 0) (y := .slice none 0 0) (z := .slice none 0 0) ?_) | (with_reducible refine Bb.far ?_ (by (try simp only [World.size_alloc, World.size_drew]); omega)) | (with_reducible refine Bb.set ?_ rfl) | (with_reducible refine Bb.grown ?_ (by assumption) (by assumption))))
          · show Bb _ _ _ _; (try refine Bb.drew ?_); exact (Bb.new (by first | rfl | (simp; done))).alloc _
          · show Bb _ _ _ _; (try refine Bb.drew ?_); exact Bb.new (by first | rfl | (simp; done))
          · show Bk _ _ _ _ _; (repeat (first | (with_reducible assumption) | (with_reducible refine Bk.drew ?_) | (with_reducible refine Bk.alloc ?_ _) | (refine Bk.far ?_ (by dsimp only; omega) _) | (with_reducible refine Bk.mono ?_ (by assumption))))
          · show Bk _ _ _ _ _; (repeat (first | (with_reducible assumption) | (with_reducible refine Bk.drew ?_) | (with_reducible refine Bk.alloc ?_ _) | (refine Bk.far ?_ (by dsimp only; omega) _) | (with_reducible refine Bk.mono ?_ (by assumption))))
          · show PhM _ _ _; (repeat (first | (with_reducible assumption) | (with_reducible refine PhM.drew ?_) | (with_reducible refine PhM.alloc ?_ _) | (refine PhM.far ?_ (by omega)) | (with_reducible refine PhM.mono ?_ (by assumption))))
          · (repeat' (first | (with_reducible exact Below.refl _ _) | (with_reducible assumption) | (with_reducible refine Below.alloc ?_ ?_ _) | (with_reducible refine Below.drew ?_) | (with_reducible refine bdN ?_ _) | (with_reducible refine Below.setCell ?_ ?_ _) | (with_reducible refine chn ?_ (by assumption) ?_) | omega | (simp; done) | (simp; omega)))
        · go_simp
          refine hK.out _ _ (fun _ => ?_) (fun hS3 => ?_)
          · (refine ⟨Bb.c (b := w.heap.size) (t := 53) (cs := #[.int .i64 (n : Int), .slice (some ⟨g, 0, none⟩) n c1, .slice (some ⟨h, 0, none⟩) n c2]) ?_ 0 rfl, Bb.c (b := w.heap.size) (t := 53) (cs := #[.int .i64 (n : Int), .slice (some ⟨g, 0, none⟩) n c1, .slice (some ⟨h, 0, none⟩) n c2]) ?_ 1 rfl, Bb.c (b := w.heap.size) (t := 53) (cs := #[.int .i64 (n : Int), .slice (some ⟨g, 0, none⟩) n c1, .slice (some ⟨h, 0, none⟩) n c2]) ?_ 2 rfl⟩ <;> (show Bb _ _ _ _; (repeat' (first | (with_reducible assumption) | (with_reducible refine Bb.alloc ?_ _) | (with_reducible refine Bb.drew ?_) | (with_reducible refine Bb.drewN ?_ _) | (refine Bb.set3 (x := .int .i64 0) (y := .slice none 0 0) (z := .slice none 0 0) ?_) | (with_reducible refine Bb.far ?_ (by (try simp only [World.size_alloc, World.size_drew]); omega)) | (with_reducible refine Bb.set ?_ rfl) | (with_reducible refine Bb.grown ?_ (by assumption) (by assumption))))))
          clear hK K
          have hS3 := hS3 (by decide)
          try simp only [Act.put, List.setIfInBounds_toArray, List.set_cons_zero, List.set_cons_succ]
          refine wpAnyX_one (i := 5) (o := _) rfl (by kernel_rfl) (fun K hK => ?_)
          go_simp
          refine hK.out _ _ (fun _ => ?_) (fun hS4 => ?_)
          · (refine ⟨Bb.c (b := w.heap.size) (t := 53) (cs := #[.int .i64 (n : Int), .slice (some ⟨g, 0, none⟩) n c1, .slice (some ⟨h, 0, none⟩) n c2]) ?_ 0 rfl, Bb.c (b := w.heap.size) (t := 53) (cs := #[.int .i64 (n : Int), .slice (some ⟨g, 0, none⟩) n c1, .slice (some ⟨h, 0, none⟩) n c2]) ?_ 1 rfl, Bb.c (b := w.heap.size) (t := 53) (cs := #[.int .i64 (n : Int), .slice (some ⟨g, 0, none⟩) n c1, .slice (some ⟨h, 0, none⟩) n c2]) ?_ 2 rfl⟩ <;> (show Bb _ _ _ _; (repeat' (first | (with_reducible assumption) | (with_reducible refine Bb.alloc ?_ _) | (with_reducible refine Bb.drew ?_) | (with_reducible refine Bb.drewN ?_ _) | (refine Bb.set3 (x := .int .i64 0) (y := .slice none 0 0) (z := .slice none 0 0) ?_) | (with_reducible refine Bb.far ?_ (by (try simp only [World.size_alloc, World.size_drew]); omega)) | (with_reducible refine Bb.set ?_ rfl) | (with_reducible refine Bb.grown ?_ (by assumption) (by assumption))))))
          clear hK K
          have hS4 := hS4 (by decide)
          try simp only [Act.put, List.setIfInBounds_toArray, List.set_cons_zero, List.set_cons_succ]
          refine wpAnyX_one (i := 7) (o := _) rfl (by kernel_rfl) (fun K hK => ?_)
          go_simp
          refine hK.out _ _ (fun _ => ?_) (fun hS5 => ?_)
          · (refine ⟨Bb.c (b := w.heap.size) (t := 53) (cs := #[.int .i64 (n : Int), .slice (some ⟨g, 0, none⟩) n c1, .slice (some ⟨h, 0, none⟩) n c2]) ?_ 0 rfl, Bb.c (b := w.heap.size) (t := 53) (cs := #[.int .i64 (n : Int), .slice (some ⟨g, 0, none⟩) n c1, .slice (some ⟨h, 0, none⟩) n c2]) ?_ 1 rfl, Bb.c (b := w.heap.size) (t := 53) (cs := #[.int .i64 (n : Int), .slice (some ⟨g, 0, none⟩) n c1, .slice (some ⟨h, 0, none⟩) n c2]) ?_ 2 rfl⟩ <;> (show Bb _ _ _ _; (repeat' (first | (with_reducible assumption) | (with_reducible refine Bb.alloc ?_ _) | (with_reducible refine Bb.drew ?_) | (with_reducible refine Bb.drewN ?_ _) | (refine Bb.set3 (x := .int .i64 0) (y := .slice none 0 0) (z := .slice none 0 0) ?_) | (with_reducible refine Bb.far ?_ (by (try simp only [World.size_alloc, World.size_drew]); omega)) | (with_reducible refine Bb.set ?_ rfl) | (with_reducible refine Bb.grown ?_ (by assumption) (by assumption))))))
          clear hK K
          have hS5 := hS5 (by decide)
          try simp only [Act.put, List.setIfInBounds_toArray, List.set_cons_zero, List.set_cons_succ]
          refine wpAnyX_take (i := 8) (oi := _) (v := ?_) rfl (by kernel_rfl) (by kernel_rfl) (by kernel_rfl) (by kernel_rfl) (fun _ _ _ h => h) (Or.inl ⟨by rfl, ?_⟩) hS5 ?_
          rotate_left 1
          · (intro w hSw; (try dsimp only at hSw); go_simp; (try with_reducible rfl))
          change wpAnyX _ _ _ _ _ _ _ _ (Act.put _ (some 5) _) _
          try simp only [Act.put, List.setIfInBounds_toArray, List.set_cons_zero, List.set_cons_succ]
          refine wpAnyX_one (i := 9) (o := _) rfl (by kernel_rfl) (fun K hK => ?_)
          go_simp
          refine hK.out _ _ (fun _ => ?_) (fun hS6 => ?_)
          · (refine ⟨Bb.c (b := w.heap.size) (t := 53) (cs := #[.int .i64 (n : Int), .slice (some ⟨g, 0, none⟩) n c1, .slice (some ⟨h, 0, none⟩) n c2]) ?_ 0 rfl, Bb.c (b := w.heap.size) (t := 53) (cs := #[.int .i64 (n : Int), .slice (some ⟨g, 0, none⟩) n c1, .slice (some ⟨h, 0, none⟩) n c2]) ?_ 1 rfl, Bb.c (b := w.heap.size) (t := 53) (cs := #[.int .i64 (n : Int), .slice (some ⟨g, 0, none⟩) n c1, .slice (some ⟨h, 0, none⟩) n c2]) ?_ 2 rfl⟩ <;> (show Bb _ _ _ _; (repeat' (first | (with_reducible assumption) | (with_reducible refine Bb.alloc ?_ _) | (with_reducible refine Bb.drew ?_) | (with_reducible refine Bb.drewN ?_ _) | (refine Bb.set3 (x := .int .i64 0) (y := .slice none 0 0) (z := .slice none 0 0) ?_) | (with_reducible refine Bb.far ?_ (by (try simp only [World.size_alloc, World.size_drew]); omega)) | (with_reducible refine Bb.set ?_ rfl) | (with_reducible refine Bb.grown ?_ (by assumption) (by assumption))))))
          clear hK K
          have hS6 := hS6 (by decide)
          try simp only [Act.put, List.setIfInBounds_toArray, List.set_cons_zero, List.set_cons_succ]
          refine wpAnyX_done (by kernel_rfl) ?_ _
          go_wp2_with (fail)
          go_meet
          refine ⟨wB.heap.size + 1, r, wB.heap.size, gx, gz, rfl, rfl, rfl, ?_, ?_, ?_, ?_, ?_, ?_, by omega, by omega, by omega, by omega, by omega, by omega, by omega, by omega, ?_⟩
          · show Bb _ _ _ _; (repeat' (first | (with_reducible assumption) | (with_reducible refine Bb.alloc ?_ _) | (with_reducible refine Bb.drew ?_) | (with_reducible refine Bb.drewN ?_ _) | (refine Bb.set3 (x := .int .i64 0) (y := .slice none 0 0) (z := .slice none 0 0) ?_) | (with_reducible refine Bb.far ?_ (by (try simp only [World.size_alloc, World.size_drew]); omega)) | (with_reducible refine Bb.set ?_ rfl) | (with_reducible refine Bb.grown ?_ (by assumption) (by assumption))))
          · show Bb _ _ _ _; (try refine Bb.drew ?_); exact Bb.new (by first | rfl | (simp; done))
          · show Bb _ _ _ _; (try refine Bb.drew ?_); exact (Bb.new (by first | rfl | (simp; done))).alloc _
          · show Bk _ _ _ _ _; (repeat (first | (with_reducible assumption) | (with_reducible refine Bk.drew ?_) | (with_reducible refine Bk.alloc ?_ _) | (refine Bk.far ?_ (by dsimp only; omega) _) | (with_reducible refine Bk.mono ?_ (by assumption))))
          · show Bk _ _ _ _ _; (repeat (first | (with_reducible assumption) | (with_reducible refine Bk.drew ?_) | (with_reducible refine Bk.alloc ?_ _) | (refine Bk.far ?_ (by dsimp only; omega) _) | (with_reducible refine Bk.mono ?_ (by assumption))))
          · show PhM _ _ _; (repeat (first | (with_reducible assumption) | (with_reducible refine PhM.drew ?_) | (with_reducible refine PhM.alloc ?_ _) | (refine PhM.far ?_ (by omega)) | (with_reducible refine PhM.mono ?_ (by assumption))))
          · (repeat' (first | (with_reducible exact Below.refl _ _) | (with_reducible assumption) | (with_reducible refine Below.alloc ?_ ?_ _) | (with_reducible refine Below.drew ?_) | (with_reducible refine bdN ?_ _) | (with_reducible refine Below.setCell ?_ ?_ _) | (with_reducible refine chn ?_ (by assumption) ?_) | omega | (simp; done) | (simp; omega)))
      · go_simp
        refine hK.out _ _ (fun _ => ?_) (fun hS2 => ?_)
        · (refine ⟨Bb.c (b := w.heap.size) (t := 53) (cs := #[.int .i64 (n : Int), .slice (some ⟨g, 0, none⟩) n c1, .slice (some ⟨h, 0, none⟩) n c2]) ?_ 0 rfl, Bb.c (b := w.heap.size) (t := 53) (cs := #[.int .i64 (n : Int), .slice (some ⟨g, 0, none⟩) n c1, .slice (some ⟨h, 0, none⟩) n c2]) ?_ 1 rfl, Bb.c (b := w.heap.size) (t := 53) (cs := #[.int .i64 (n : Int), .slice (some ⟨g, 0, none⟩) n c1, .slice (some ⟨h, 0, none⟩) n c2]) ?_ 2 rfl⟩ <;> (show Bb _ _ _ _; (repeat' (first | (with_reducible assumption) | (with_reducible refine Bb.alloc ?_ _) | (with_reducible refine Bb.drew ?_) | (with_reducible refine Bb.drewN ?_ _) | (refine Bb.set3 (x := .int .i64 0) (y := .slice none 0 0) (z := .slice none 0 0) ?_) | (with_reducible refine Bb.far ?_ (by (try simp only [World.size_alloc, World.size_drew]); omega)) | (with_reducible refine Bb.set ?_ rfl) | (with_reducible refine Bb.grown ?_ (by assumption) (by assumption))))))
        clear hK K
        have hS2 := hS2 (by decide)
        try simp only [Act.put, List.setIfInBounds_toArray, List.set_cons_zero, List.set_cons_succ]
        refine wpAnyX_two (i := 3) (j := 6) (oi := _) (oj := _) rfl rfl (by kernel_rfl) (fun K hK => ?_) (fun K hK => ?_)
        · go_simp
          refine (nlp _).mono ?_
          rintro ee wB ⟨r, rfl, hPh, l3, hbB⟩
          have kB : Below ((wA).alloc (.cells #[.int .i64 0, .slice none 0 0, .slice none 0 0] 53)).heap.size ((wA).alloc (.cells #[.int .i64 0, .slice none 0 0, .slice none 0 0] 53)) wB := ⟨hbB.os, hbB.tape, hbB.output, hbB.size, hbB.block⟩
          have hzB := hbB.size
          (try simp only [World.size_alloc, World.size_drew] at hzB l3)
          have hBwB : Below w.heap.size w wB := by (repeat' (first | (with_reducible exact Below.refl _ _) | (with_reducible assumption) | (with_reducible refine Below.alloc ?_ ?_ _) | (with_reducible refine Below.drew ?_) | (with_reducible refine bdN ?_ _) | (with_reducible refine Below.setCell ?_ ?_ _) | (with_reducible refine chn ?_ (by assumption) ?_) | omega | (simp; done) | (simp; omega)))
          have XtwB : Bb wB w.heap.size 53 #[.int .i64 (n : Int), .slice (some ⟨g, 0, none⟩) n c1, .slice (some ⟨h, 0, none⟩) n c2] := ((XtwA).alloc _).mono kB
          have XpwB : Bb wB (wA.heap.size) 53 #[.int .i64 0, .slice none 0 0, .slice none 0 0] := (Bb.new (rfl)).mono kB
          have GxwB : Bk pauliE wB gx 43 (tab n genX) := ((GxwA).alloc _).mono kB
          have GzwB : Bk pauliE wB gz 43 (tab n genZ) := ((GzwA).alloc _).mono kB
          have PhwB := hPh
          clear hPh
          have lr := PhwB.lt
          clear hbB kB
          refine hK.out _ _ (fun _ => ?_) (fun hS3 => ?_)
          · exact ⟨XtwB.c 0 rfl, XtwB.c 1 rfl, XtwB.c 2 rfl⟩
          clear hK K
          have hS3 := hS3 (by decide)
          try simp only [Act.put, List.setIfInBounds_toArray, List.set_cons_zero, List.set_cons_succ]
          refine wpAnyX_one (i := 6) (o := _) rfl (by kernel_rfl) (fun K hK => ?_)
          go_simp
          refine hK.out _ _ (fun _ => ?_) (fun hS4 => ?_)
          · (refine ⟨Bb.c (b := w.heap.size) (t := 53) (cs := #[.int .i64 (n : Int), .slice (some ⟨g, 0, none⟩) n c1, .slice (some ⟨h, 0, none⟩) n c2]) ?_ 0 rfl, Bb.c (b := w.heap.size) (t := 53) (cs := #[.int .i64 (n : Int), .slice (some ⟨g, 0, none⟩) n c1, .slice (some ⟨h, 0, none⟩) n c2]) ?_ 1 rfl, Bb.c (b := w.heap.size) (t := 53) (cs := #[.int .i64 (n : Int), .slice (some ⟨g, 0, none⟩) n c1, .slice (some ⟨h, 0, none⟩) n c2]) ?_ 2 rfl⟩ <;> (show Bb _ _ _ _; (repeat' (first | (with_reducible assumption) | (with_reducible refine Bb.alloc ?_ _) | (with_reducible refine Bb.drew ?_) | (with_reducible refine Bb.drewN ?_ _) | (refine Bb.set3 (x := .int .i64 0) (y := .slice none 0 0) (z := .slice none 0 0) ?_) | (with_reducible refine Bb.far ?_ (by (try simp only [World.size_alloc, World.size_drew]); omega)) | (with_reducible refine Bb.set ?_ rfl) | (with_reducible refine Bb.grown ?_ (by assumption) (by assumption))))))
          clear hK K
          have hS4 := hS4 (by decide)
          try simp only [Act.put, List.setIfInBounds_toArray, List.set_cons_zero, List.set_cons_succ]
          refine wpAnyX_one (i := 7) (o := _) rfl (by kernel_rfl) (fun K hK => ?_)
          have cp0 := XpwB.c 0 rfl
          have cp1 := XpwB.c 1 rfl
          have cp2 := XpwB.c 2 rfl
          have fp := XpwB.f
          have lp := XpwB.lt
          go_simp
          refine hK.out _ _ (fun _ => ?_) (fun hS5 => ?_)
          · (refine ⟨Bb.c (b := w.heap.size) (t := 53) (cs := #[.int .i64 (n : Int), .slice (some ⟨g, 0, none⟩) n c1, .slice (some ⟨h, 0, none⟩) n c2]) ?_ 0 rfl, Bb.c (b := w.heap.size) (t := 53) (cs := #[.int .i64 (n : Int), .slice (some ⟨g, 0, none⟩) n c1, .slice (some ⟨h, 0, none⟩) n c2]) ?_ 1 rfl, Bb.c (b := w.heap.size) (t := 53) (cs := #[.int .i64 (n : Int), .slice (some ⟨g, 0, none⟩) n c1, .slice (some ⟨h, 0, none⟩) n c2]) ?_ 2 rfl⟩ <;> (show Bb _ _ _ _; (repeat' (first | (with_reducible assumption) | (with_reducible refine Bb.alloc ?_ _) | (with_reducible refine Bb.drew ?_) | (with_reducible refine Bb.drewN ?_ _) | (refine Bb.set3 (x := .int .i64 0) (y := .slice none 0 0) (z := .slice none 0 0) ?_) | (with_reducible refine Bb.far ?_ (by (try simp only [World.size_alloc, World.size_drew]); omega)) | (with_reducible refine Bb.set ?_ rfl) | (with_reducible refine Bb.grown ?_ (by assumption) (by assumption))))))
          clear hK K
          have hS5 := hS5 (by decide)
          try simp only [Act.put, List.setIfInBounds_toArray, List.set_cons_zero, List.set_cons_succ]
          refine wpAnyX_take (i := 8) (oi := _) (v := ?_) rfl (by kernel_rfl) (by kernel_rfl) (by kernel_rfl) (by kernel_rfl) (fun _ _ _ h => h) (Or.inl ⟨by rfl, ?_⟩) hS5 ?_
          rotate_left 1
          · (intro w hSw; (try dsimp only at hSw); go_simp; (try with_reducible rfl))
          change wpAnyX _ _ _ _ _ _ _ _ (Act.put _ (some 5) _) _
          try simp only [Act.put, List.setIfInBounds_toArray, List.set_cons_zero, List.set_cons_succ]
          refine wpAnyX_one (i := 9) (o := _) rfl (by kernel_rfl) (fun K hK => ?_)
          go_simp
          refine hK.out _ _ (fun _ => ?_) (fun hS6 => ?_)
          · (refine ⟨Bb.c (b := w.heap.size) (t := 53) (cs := #[.int .i64 (n : Int), .slice (some ⟨g, 0, none⟩) n c1, .slice (some ⟨h, 0, none⟩) n c2]) ?_ 0 rfl, Bb.c (b := w.heap.size) (t := 53) (cs := #[.int .i64 (n : Int), .slice (some ⟨g, 0, none⟩) n c1, .slice (some ⟨h, 0, none⟩) n c2]) ?_ 1 rfl, Bb.c (b := w.heap.size) (t := 53) (cs := #[.int .i64 (n : Int), .slice (some ⟨g, 0, none⟩) n c1, .slice (some ⟨h, 0, none⟩) n c2]) ?_ 2 rfl⟩ <;> (show Bb _ _ _ _; (repeat' (first | (with_reducible assumption) | (with_reducible refine Bb.alloc ?_ _) | (with_reducible refine Bb.drew ?_) | (with_reducible refine Bb.drewN ?_ _) | (refine Bb.set3 (x := .int .i64 0) (y := .slice none 0 0) (z := .slice none 0 0) ?_) | (with_reducible refine Bb.far ?_ (by (try simp only [World.size_alloc, World.size_drew]); omega)) | (with_reducible refine Bb.set ?_ rfl) | (with_reducible refine Bb.grown ?_ (by assumption) (by assumption))))))
          clear hK K
          have hS6 := hS6 (by decide)
          try simp only [Act.put, List.setIfInBounds_toArray, List.set_cons_zero, List.set_cons_succ]
          refine wpAnyX_done (by kernel_rfl) ?_ _
          go_wp2_with (fail)
          go_meet
          refine ⟨wA.heap.size, r, wB.heap.size, gx, gz, rfl, rfl, rfl, ?_, ?_, ?_, ?_, ?_, ?_, by omega, by omega, by omega, by omega, by omega, by omega, by omega, by omega, ?_⟩
          · show Bb _ _ _ _; (repeat' (first | (with_reducible assumption) | (with_reducible refine Bb.alloc ?_ _) | (with_reducible refine Bb.drew ?_) | (with_reducible refine Bb.drewN ?_ _) | (refine Bb.set3 (x := .int .i64 0) (y := .slice none 0 0) (z := .slice none 0 0) ?_) | (with_reducible refine Bb.far ?_ (by (try simp only [World.size_alloc, World.size_drew]); omega)) | (with_reducible refine Bb.set ?_ rfl) | (with_reducible refine Bb.grown ?_ (by assumption) (by assumption))))
          · show Bb _ _ _ _; (repeat' (first | (with_reducible assumption) | (with_reducible refine Bb.alloc ?_ _) | (with_reducible refine Bb.drew ?_) | (with_reducible refine Bb.drewN ?_ _) | (refine Bb.set3 (x := .int .i64 0) (y := .slice none 0 0) (z := .slice none 0 0) ?_) | (with_reducible refine Bb.far ?_ (by (try simp only [World.size_alloc, World.size_drew]); omega)) | (with_reducible refine Bb.set ?_ rfl) | (with_reducible refine Bb.grown ?_ (by assumption) (by assumption))))
          · show Bb _ _ _ _; (try refine Bb.drew ?_); exact Bb.new (by first | rfl | (simp; done))
          · show Bk _ _ _ _ _; (repeat (first | (with_reducible assumption) | (with_reducible refine Bk.drew ?_) | (with_reducible refine Bk.alloc ?_ _) | (refine Bk.far ?_ (by dsimp only; omega) _) | (with_reducible refine Bk.mono ?_ (by assumption))))
          · show Bk _ _ _ _ _; (repeat (first | (with_reducible assumption) | (with_reducible refine Bk.drew ?_) | (with_reducible refine Bk.alloc ?_ _) | (refine Bk.far ?_ (by dsimp only; omega) _) | (with_reducible refine Bk.mono ?_ (by assumption))))
          · show PhM _ _ _; (repeat (first | (with_reducible assumption) | (with_reducible refine PhM.drew ?_) | (with_reducible refine PhM.alloc ?_ _) | (refine PhM.far ?_ (by omega)) | (with_reducible refine PhM.mono ?_ (by assumption))))
          · (repeat' (first | (with_reducible exact Below.refl _ _) | (with_reducible assumption) | (with_reducible refine Below.alloc ?_ ?_ _) | (with_reducible refine Below.drew ?_) | (with_reducible refine bdN ?_ _) | (with_reducible refine Below.setCell ?_ ?_ _) | (with_reducible refine chn ?_ (by assumption) ?_) | omega | (simp; done) | (simp; omega)))
        · go_simp
          refine hK.out _ _ (fun _ => ?_) (fun hS3 => ?_)
          · (refine ⟨Bb.c (b := w.heap.size) (t := 53) (cs := #[.int .i64 (n : Int), .slice (some ⟨g, 0, none⟩) n c1, .slice (some ⟨h, 0, none⟩) n c2]) ?_ 0 rfl, Bb.c (b := w.heap.size) (t := 53) (cs := #[.int .i64 (n : Int), .slice (some ⟨g, 0, none⟩) n c1, .slice (some ⟨h, 0, none⟩) n c2]) ?_ 1 rfl, Bb.c (b := w.heap.size) (t := 53) (cs := #[.int .i64 (n : Int), .slice (some ⟨g, 0, none⟩) n c1, .slice (some ⟨h, 0, none⟩) n c2]) ?_ 2 rfl⟩ <;> (show Bb _ _ _ _; (repeat' (first | (with_reducible assumption) | (with_reducible refine Bb.alloc ?_ _) | (with_reducible refine Bb.drew ?_) | (with_reducible refine Bb.drewN ?_ _) | (refine Bb.set3 (x := .int .i64 0) (y := .slice none 0 0) (z := .slice none 0 0) ?_) | (with_reducible refine Bb.far ?_ (by (try simp only [World.size_alloc, World.size_drew]); omega)) | (with_reducible refine Bb.set ?_ rfl) | (with_reducible refine Bb.grown ?_ (by assumption) (by assumption))))))
          clear hK K
          have hS3 := hS3 (by decide)
          try simp only [Act.put, List.setIfInBounds_toArray, List.set_cons_zero, List.set_cons_succ]
          refine wpAnyX_one (i := 3) (o := _) rfl (by kernel_rfl) (fun K hK => ?_)
          go_simp
          refine (nlp _).mono ?_
          rintro ee wB ⟨r, rfl, hPh, l3, hbB⟩
          have kB : Below (((wA).alloc (.cells #[.int .i64 0, .slice none 0 0, .slice none 0 0] 53)).alloc (.cells #[.int .i64 0, .slice none 0 0, .slice none 0 0] 53)).heap.size (((wA).alloc (.cells #[.int .i64 0, .slice none 0 0, .slice none 0 0] 53)).alloc (.cells #[.int .i64 0, .slice none 0 0, .slice none 0 0] 53)) wB := ⟨hbB.os, hbB.tape, hbB.output, hbB.size, hbB.block⟩
          have hzB := hbB.size
          (try simp only [World.size_alloc, World.size_drew] at hzB l3)
          have hBwB : Below w.heap.size w wB := by (repeat' (first | (with_reducible exact Below.refl _ _) | (with_reducible assumption) | (with_reducible refine Below.alloc ?_ ?_ _) | (with_reducible refine Below.drew ?_) | (with_reducible refine bdN ?_ _) | (with_reducible refine Below.setCell ?_ ?_ _) | (with_reducible refine chn ?_ (by assumption) ?_) | omega | (simp; done) | (simp; omega)))
          have XtwB : Bb wB w.heap.size 53 #[.int .i64 (n : Int), .slice (some ⟨g, 0, none⟩) n c1, .slice (some ⟨h, 0, none⟩) n c2] := (((XtwA).alloc _).alloc _).mono kB
          have XpwB : Bb wB (wA.heap.size) 53 #[.int .i64 0, .slice none 0 0, .slice none 0 0] := ((Bb.new (rfl)).alloc _).mono kB
          have XqwB : Bb wB (wA.heap.size + 1) 53 #[.int .i64 0, .slice none 0 0, .slice none 0 0] := (Bb.new (by simp)).mono kB
          have GxwB : Bk pauliE wB gx 43 (tab n genX) := (((GxwA).alloc _).alloc _).mono kB
          have GzwB : Bk pauliE wB gz 43 (tab n genZ) := (((GzwA).alloc _).alloc _).mono kB
          have PhwB := hPh
          clear hPh
          have lr := PhwB.lt
          clear hbB kB
          refine hK.out _ _ (fun _ => ?_) (fun hS4 => ?_)
          · exact ⟨XtwB.c 0 rfl, XtwB.c 1 rfl, XtwB.c 2 rfl⟩
          clear hK K
          have hS4 := hS4 (by decide)
          try simp only [Act.put, List.setIfInBounds_toArray, List.set_cons_zero, List.set_cons_succ]
          refine wpAnyX_one (i := 7) (o := _) rfl (by kernel_rfl) (fun K hK => ?_)
          have cp0 := XpwB.c 0 rfl
          have cp1 := XpwB.c 1 rfl
          have cp2 := XpwB.c 2 rfl
          have fp := XpwB.f
          have lp := XpwB.lt
          go_simp
          refine hK.out _ _ (fun _ => ?_) (fun hS5 => ?_)
          · (refine ⟨Bb.c (b := w.heap.size) (t := 53) (cs := #[.int .i64 (n : Int), .slice (some ⟨g, 0, none⟩) n c1, .slice (some ⟨h, 0, none⟩) n c2]) ?_ 0 rfl, Bb.c (b := w.heap.size) (t := 53) (cs := #[.int .i64 (n : Int), .slice (some ⟨g, 0, none⟩) n c1, .slice (some ⟨h, 0, none⟩) n c2]) ?_ 1 rfl, Bb.c (b := w.heap.size) (t := 53) (cs := #[.int .i64 (n : Int), .slice (some ⟨g, 0, none⟩) n c1, .slice (some ⟨h, 0, none⟩) n c2]) ?_ 2 rfl⟩ <;> (show Bb _ _ _ _; (repeat' (first | (with_reducible assumption) | (with_reducible refine Bb.alloc ?_ _) | (with_reducible refine Bb.drew ?_) | (with_reducible refine Bb.drewN ?_ _) | (refine Bb.set3 (x := .int .i64 0) (y := .slice none 0 0) (z := .slice none 0 0) ?_) | (with_reducible refine Bb.far ?_ (by (try simp only [World.size_alloc, World.size_drew]); omega)) | (with_reducible refine Bb.set ?_ rfl) | (with_reducible refine Bb.grown ?_ (by assumption) (by assumption))))))
          clear hK K
          have hS5 := hS5 (by decide)
          try simp only [Act.put, List.setIfInBounds_toArray, List.set_cons_zero, List.set_cons_succ]
          refine wpAnyX_take (i := 8) (oi := _) (v := ?_) rfl (by kernel_rfl) (by kernel_rfl) (by kernel_rfl) (by kernel_rfl) (fun _ _ _ h => h) (Or.inl ⟨by rfl, ?_⟩) hS5 ?_
          rotate_left 1
          · (intro w hSw; (try dsimp only at hSw); go_simp; (try with_reducible rfl))
          change wpAnyX _ _ _ _ _ _ _ _ (Act.put _ (some 5) _) _
          try simp only [Act.put, List.setIfInBounds_toArray, List.set_cons_zero, List.set_cons_succ]
          refine wpAnyX_one (i := 9) (o := _) rfl (by kernel_rfl) (fun K hK => ?_)
          have cq0 := XqwB.c 0 rfl
          have cq1 := XqwB.c 1 rfl
          have cq2 := XqwB.c 2 rfl
          have fq := XqwB.f
          have lq := XqwB.lt
          go_simp
          refine hK.out _ _ (fun _ => ?_) (fun hS6 => ?_)
          · (refine ⟨Bb.c (b := w.heap.size) (t := 53) (cs := #[.int .i64 (n : Int), .slice (some ⟨g, 0, none⟩) n c1, .slice (some ⟨h, 0, none⟩) n c2]) ?_ 0 rfl, Bb.c (b := w.heap.size) (t := 53) (cs := #[.int .i64 (n : Int), .slice (some ⟨g, 0, none⟩) n c1, .slice (some ⟨h, 0, none⟩) n c2]) ?_ 1 rfl, Bb.c (b := w.heap.size) (t := 53) (cs := #[.int .i64 (n : Int), .slice (some ⟨g, 0, none⟩) n c1, .slice (some ⟨h, 0, none⟩) n c2]) ?_ 2 rfl⟩ <;> (show Bb _ _ _ _; (repeat' (first | (with_reducible assumption) | (with_reducible refine Bb.alloc ?_ _) | (with_reducible refine Bb.drew ?_) | (with_reducible refine Bb.drewN ?_ _) | (refine Bb.set3 (x := .int .i64 0) (y := .slice none 0 0) (z := .slice none 0 0) ?_) | (with_reducible refine Bb.far ?_ (by (try simp only [World.size_alloc, World.size_drew]); omega)) | (with_reducible refine Bb.set ?_ rfl) | (with_reducible refine Bb.grown ?_ (by assumption) (by assumption))))))
          clear hK K
          have hS6 := hS6 (by decide)
          try simp only [Act.put, List.setIfInBounds_toArray, List.set_cons_zero, List.set_cons_succ]
          refine wpAnyX_done (by kernel_rfl) ?_ _
          go_wp2_with (fail)
          go_meet
          refine ⟨wA.heap.size, r, wA.heap.size + 1, gx, gz, rfl, rfl, rfl, ?_, ?_, ?_, ?_, ?_, ?_, by omega, by omega, by omega, by omega, by omega, by omega, by omega, by omega, ?_⟩
          · show Bb _ _ _ _; (repeat' (first | (with_reducible assumption) | (with_reducible refine Bb.alloc ?_ _) | (with_reducible refine Bb.drew ?_) | (with_reducible refine Bb.drewN ?_ _) | (refine Bb.set3 (x := .int .i64 0) (y := .slice none 0 0) (z := .slice none 0 0) ?_) | (with_reducible refine Bb.far ?_ (by (try simp only [World.size_alloc, World.size_drew]); omega)) | (with_reducible refine Bb.set ?_ rfl) | (with_reducible refine Bb.grown ?_ (by assumption) (by assumption))))
          · show Bb _ _ _ _; (repeat' (first | (with_reducible assumption) | (with_reducible refine Bb.alloc ?_ _) | (with_reducible refine Bb.drew ?_) | (with_reducible refine Bb.drewN ?_ _) | (refine Bb.set3 (x := .int .i64 0) (y := .slice none 0 0) (z := .slice none 0 0) ?_) | (with_reducible refine Bb.far ?_ (by (try simp only [World.size_alloc, World.size_drew]); omega)) | (with_reducible refine Bb.set ?_ rfl) | (with_reducible refine Bb.grown ?_ (by assumption) (by assumption))))
          · show Bb _ _ _ _; (repeat' (first | (with_reducible assumption) | (with_reducible refine Bb.alloc ?_ _) | (with_reducible refine Bb.drew ?_) | (with_reducible refine Bb.drewN ?_ _) | (refine Bb.set3 (x := .int .i64 0) (y := .slice none 0 0) (z := .slice none 0 0) ?_) | (with_reducible refine Bb.far ?_ (by (try simp only [World.size_alloc, World.size_drew]); omega)) | (with_reducible refine Bb.set ?_ rfl) | (with_reducible refine Bb.grown ?_ (by assumption) (by assumption))))
          · show Bk _ _ _ _ _; (repeat (first | (with_reducible assumption) | (with_reducible refine Bk.drew ?_) | (with_reducible refine Bk.alloc ?_ _) | (refine Bk.far ?_ (by dsimp only; omega) _) | (with_reducible refine Bk.mono ?_ (by assumption))))
          · show Bk _ _ _ _ _; (repeat (first | (with_reducible assumption) | (with_reducible refine Bk.drew ?_) | (with_reducible refine Bk.alloc ?_ _) | (refine Bk.far ?_ (by dsimp only; omega) _) | (with_reducible refine Bk.mono ?_ (by assumption))))
          · show PhM _ _ _; (repeat (first | (with_reducible assumption) | (with_reducible refine PhM.drew ?_) | (with_reducible refine PhM.alloc ?_ _) | (refine PhM.far ?_ (by omega)) | (with_reducible refine PhM.mono ?_ (by assumption))))
          · (repeat' (first | (with_reducible exact Below.refl _ _) | (with_reducible assumption) | (with_reducible refine Below.alloc ?_ ?_ _) | (with_reducible refine Below.drew ?_) | (with_reducible refine bdN ?_ _) | (with_reducible refine Below.setCell ?_ ?_ _) | (with_reducible refine chn ?_ (by assumption) ?_) | omega | (simp; done) | (simp; omega)))
      · go_simp
        refine hK.out _ _ (fun _ => ?_) (fun hS2 => ?_)
        · (refine ⟨Bb.c (b := w.heap.size) (t := 53) (cs := #[.int .i64 (n : Int), .slice (some ⟨g, 0, none⟩) n c1, .slice (some ⟨h, 0, none⟩) n c2]) ?_ 0 rfl, Bb.c (b := w.heap.size) (t := 53) (cs := #[.int .i64 (n : Int), .slice (some ⟨g, 0, none⟩) n c1, .slice (some ⟨h, 0, none⟩) n c2]) ?_ 1 rfl, Bb.c (b := w.heap.size) (t := 53) (cs := #[.int .i64 (n : Int), .slice (some ⟨g, 0, none⟩) n c1, .slice (some ⟨h, 0, none⟩) n c2]) ?_ 2 rfl⟩ <;> (show Bb _ _ _ _; (repeat' (first | (with_reducible assumption) | (with_reducible refine Bb.alloc ?_ _) | (with_reducible refine Bb.drew ?_) | (with_reducible refine Bb.drewN ?_ _) | (refine Bb.set3 (x := .int .i64 0) (y := .slice none 0 0) (z := .slice none 0 0) ?_) | (with_reducible refine Bb.far ?_ (by (try simp only [World.size_alloc, World.size_drew]); omega)) | (with_reducible refine Bb.set ?_ rfl) | (with_reducible refine Bb.grown ?_ (by assumption) (by assumption))))))
        clear hK K
        have hS2 := hS2 (by decide)
        try simp only [Act.put, List.setIfInBounds_toArray, List.set_cons_zero, List.set_cons_succ]
        refine wpAnyX_two (i := 3) (j := 5) (oi := _) (oj := _) rfl rfl (by kernel_rfl) (fun K hK => ?_) (fun K hK => ?_)
        · go_simp
          refine (nlp _).mono ?_
          rintro ee wB ⟨r, rfl, hPh, l3, hbB⟩
          have kB : Below ((wA).alloc (.cells #[.int .i64 0, .slice none 0 0, .slice none 0 0] 53)).heap.size ((wA).alloc (.cells #[.int .i64 0, .slice none 0 0, .slice none 0 0] 53)) wB := ⟨hbB.os, hbB.tape, hbB.output, hbB.size, hbB.block⟩
          have hzB := hbB.size
          (try simp only [World.size_alloc, World.size_drew] at hzB l3)
          have hBwB : Below w.heap.size w wB := by (repeat' (first | (with_reducible exact Below.refl _ _) | (with_reducible assumption) | (with_reducible refine Below.alloc ?_ ?_ _) | (with_reducible refine Below.drew ?_) | (with_reducible refine bdN ?_ _) | (with_reducible refine Below.setCell ?_ ?_ _) | (with_reducible refine chn ?_ (by assumption) ?_) | omega | (simp; done) | (simp; omega)))
          have XtwB : Bb wB w.heap.size 53 #[.int .i64 (n : Int), .slice (some ⟨g, 0, none⟩) n c1, .slice (some ⟨h, 0, none⟩) n c2] := ((XtwA).alloc _).mono kB
          have XqwB : Bb wB (wA.heap.size) 53 #[.int .i64 0, .slice none 0 0, .slice none 0 0] := (Bb.new (rfl)).mono kB
          have GxwB : Bk pauliE wB gx 43 (tab n genX) := ((GxwA).alloc _).mono kB
          have GzwB : Bk pauliE wB gz 43 (tab n genZ) := ((GzwA).alloc _).mono kB
          have PhwB := hPh
          clear hPh
          have lr := PhwB.lt
          clear hbB kB
          refine hK.out _ _ (fun _ => ?_) (fun hS3 => ?_)
          · exact ⟨XtwB.c 0 rfl, XtwB.c 1 rfl, XtwB.c 2 rfl⟩
          clear hK K
          have hS3 := hS3 (by decide)
          try simp only [Act.put, List.setIfInBounds_toArray, List.set_cons_zero, List.set_cons_succ]
          refine wpAnyX_one (i := 5) (o := _) rfl (by kernel_rfl) (fun K hK => ?_)
          go_simp
          refine hK.out _ _ (fun _ => ?_) (fun hS4 => ?_)
          · (refine ⟨Bb.c (b := w.heap.size) (t := 53) (cs := #[.int .i64 (n : Int), .slice (some ⟨g, 0, none⟩) n c1, .slice (some ⟨h, 0, none⟩) n c2]) ?_ 0 rfl, Bb.c (b := w.heap.size) (t := 53) (cs := #[.int .i64 (n : Int), .slice (some ⟨g, 0, none⟩) n c1, .slice (some ⟨h, 0, none⟩) n c2]) ?_ 1 rfl, Bb.c (b := w.heap.size) (t := 53) (cs := #[.int .i64 (n : Int), .slice (some ⟨g, 0, none⟩) n c1, .slice (some ⟨h, 0, none⟩) n c2]) ?_ 2 rfl⟩ <;> (show Bb _ _ _ _; (repeat' (first | (with_reducible assumption) | (with_reducible refine Bb.alloc ?_ _) | (with_reducible refine Bb.drew ?_) | (with_reducible refine Bb.drewN ?_ _) | (refine Bb.set3 (x := .int .i64 0) (y := .slice none 0 0) (z := .slice none 0 0) ?_) | (with_reducible refine Bb.far ?_ (by (try simp only [World.size_alloc, World.size_drew]); omega)) | (with_reducible refine Bb.set ?_ rfl) | (with_reducible refine Bb.grown ?_ (by assumption) (by assumption))))))
          clear hK K
          have hS4 := hS4 (by decide)
          try simp only [Act.put, List.setIfInBounds_toArray, List.set_cons_zero, List.set_cons_succ]
          refine wpAnyX_one (i := 7) (o := _) rfl (by kernel_rfl) (fun K hK => ?_)
          go_simp
          refine hK.out _ _ (fun _ => ?_) (fun hS5 => ?_)
          · (refine ⟨Bb.c (b := w.heap.size) (t := 53) (cs := #[.int .i64 (n : Int), .slice (some ⟨g, 0, none⟩) n c1, .slice (some ⟨h, 0, none⟩) n c2]) ?_ 0 rfl, Bb.c (b := w.heap.size) (t := 53) (cs := #[.int .i64 (n : Int), .slice (some ⟨g, 0, none⟩) n c1, .slice (some ⟨h, 0, none⟩) n c2]) ?_ 1 rfl, Bb.c (b := w.heap.size) (t := 53) (cs := #[.int .i64 (n : Int), .slice (some ⟨g, 0, none⟩) n c1, .slice (some ⟨h, 0, none⟩) n c2]) ?_ 2 rfl⟩ <;> (show Bb _ _ _ _; (repeat' (first | (with_reducible assumption) | (with_reducible refine Bb.alloc ?_ _) | (with_reducible refine Bb.drew ?_) | (with_reducible refine Bb.drewN ?_ _) | (refine Bb.set3 (x := .int .i64 0) (y := .slice none 0 0) (z := .slice none 0 0) ?_) | (with_reducible refine Bb.far ?_ (by (try simp only [World.size_alloc, World.size_drew]); omega)) | (with_reducible refine Bb.set ?_ rfl) | (with_reducible refine Bb.grown ?_ (by assumption) (by assumption))))))
          clear hK K
          have hS5 := hS5 (by decide)
          try simp only [Act.put, List.setIfInBounds_toArray, List.set_cons_zero, List.set_cons_succ]
          refine wpAnyX_take (i := 8) (oi := _) (v := ?_) rfl (by kernel_rfl) (by kernel_rfl) (by kernel_rfl) (by kernel_rfl) (fun _ _ _ h => h) (Or.inl ⟨by rfl, ?_⟩) hS5 ?_
          rotate_left 1
          · (intro w hSw; (try dsimp only at hSw); go_simp; (try with_reducible rfl))
          change wpAnyX _ _ _ _ _ _ _ _ (Act.put _ (some 5) _) _
          try simp only [Act.put, List.setIfInBounds_toArray, List.set_cons_zero, List.set_cons_succ]
          refine wpAnyX_one (i := 9) (o := _) rfl (by kernel_rfl) (fun K hK => ?_)
          have cq0 := XqwB.c 0 rfl
          have cq1 := XqwB.c 1 rfl
          have cq2 := XqwB.c 2 rfl
          have fq := XqwB.f
          have lq := XqwB.lt
          go_simp
          refine hK.out _ _ (fun _ => ?_) (fun hS6 => ?_)
          · (refine ⟨Bb.c (b := w.heap.size) (t := 53) (cs := #[.int .i64 (n : Int), .slice (some ⟨g, 0, none⟩) n c1, .slice (some ⟨h, 0, none⟩) n c2]) ?_ 0 rfl, Bb.c (b := w.heap.size) (t := 53) (cs := #[.int .i64 (n : Int), .slice (some ⟨g, 0, none⟩) n c1, .slice (some ⟨h, 0, none⟩) n c2]) ?_ 1 rfl, Bb.c (b := w.heap.size) (t := 53) (cs := #[.int .i64 (n : Int), .slice (some ⟨g, 0, none⟩) n c1, .slice (some ⟨h, 0, none⟩) n c2]) ?_ 2 rfl⟩ <;> (show Bb _ _ _ _; (repeat' (first | (with_reducible assumption) | (with_reducible refine Bb.alloc ?_ _) | (with_reducible refine Bb.drew ?_) | (with_reducible refine Bb.drewN ?_ _) | (refine Bb.set3 (x := .int .i64 0) (y := .slice none 0 0) (z := .slice none 0 0) ?_) | (with_reducible refine Bb.far ?_ (by (try simp only [World.size_alloc, World.size_drew]); omega)) | (with_reducible refine Bb.set ?_ rfl) | (with_reducible refine Bb.grown ?_ (by assumption) (by assumption))))))
          clear hK K
          have hS6 := hS6 (by decide)
          try simp only [Act.put, List.setIfInBounds_toArray, List.set_cons_zero, List.set_cons_succ]
          refine wpAnyX_done (by kernel_rfl) ?_ _
          go_wp2_with (fail)
          go_meet
          refine ⟨wB.heap.size, r, wA.heap.size, gx, gz, rfl, rfl, rfl, ?_, ?_, ?_, ?_, ?_, ?_, by omega, by omega, by omega, by omega, by omega, by omega, by omega, by omega, ?_⟩
          · show Bb _ _ _ _; (repeat' (first | (with_reducible assumption) | (with_reducible refine Bb.alloc ?_ _) | (with_reducible refine Bb.drew ?_) | (with_reducible refine Bb.drewN ?_ _) | (refine Bb.set3 (x := .int .i64 0) (y := .slice none 0 0) (z := .slice none 0 0) ?_) | (with_reducible refine Bb.far ?_ (by (try simp only [World.size_alloc, World.size_drew]); omega)) | (with_reducible refine Bb.set ?_ rfl) | (with_reducible refine Bb.grown ?_ (by assumption) (by assumption))))
          · show Bb _ _ _ _; (try refine Bb.drew ?_); exact Bb.new (by first | rfl | (simp; done))
          · show Bb _ _ _ _; (repeat' (first | (with_reducible assumption) | (with_reducible refine Bb.alloc ?_ _) | (with_reducible refine Bb.drew ?_) | (with_reducible refine Bb.drewN ?_ _) | (refine Bb.set3 (x := .int .i64 0) (y := .slice none 0 0) (z := .slice none 0 0) ?_) | (with_reducible refine Bb.far ?_ (by (try simp only [World.size_alloc, World.size_drew]); omega)) | (with_reducible refine Bb.set ?_ rfl) | (with_reducible refine Bb.grown ?_ (by assumption) (by assumption))))
          · show Bk _ _ _ _ _; (repeat (first | (with_reducible assumption) | (with_reducible refine Bk.drew ?_) | (with_reducible refine Bk.alloc ?_ _) | (refine Bk.far ?_ (by dsimp only; omega) _) | (with_reducible refine Bk.mono ?_ (by assumption))))
          · show Bk _ _ _ _ _; (repeat (first | (with_reducible assumption) | (with_reducible refine Bk.drew ?_) | (with_reducible refine Bk.alloc ?_ _) | (refine Bk.far ?_ (by dsimp only; omega) _) | (with_reducible refine Bk.mono ?_ (by assumption))))
          · show PhM _ _ _; (repeat (first | (with_reducible assumption) | (with_reducible refine PhM.drew ?_) | (with_reducible refine PhM.alloc ?_ _) | (refine PhM.far ?_ (by omega)) | (with_reducible refine PhM.mono ?_ (by assumption))))
          · (repeat' (first | (with_reducible exact Below.refl _ _) | (with_reducible assumption) | (with_reducible refine Below.alloc ?_ ?_ _) | (with_reducible refine Below.drew ?_) | (with_reducible refine bdN ?_ _) | (with_reducible refine Below.setCell ?_ ?_ _) | (with_reducible refine chn ?_ (by assumption) ?_) | omega | (simp; done) | (simp; omega)))
        · go_simp
          refine hK.out _ _ (fun _ => ?_) (fun hS3 => ?_)
          · (refine ⟨Bb.c (b := w.heap.size) (t := 53) (cs := #[.int .i64 (n : Int), .slice (some ⟨g, 0, none⟩) n c1, .slice (some ⟨h, 0, none⟩) n c2]) ?_ 0 rfl, Bb.c (b := w.heap.size) (t := 53) (cs := #[.int .i64 (n : Int), .slice (some ⟨g, 0, none⟩) n c1, .slice (some ⟨h, 0, none⟩) n c2]) ?_ 1 rfl, Bb.c (b := w.heap.size) (t := 53) (cs := #[.int .i64 (n : Int), .slice (some ⟨g, 0, none⟩) n c1, .slice (some ⟨h, 0, none⟩) n c2]) ?_ 2 rfl⟩ <;> (show Bb _ _ _ _; (repeat' (first | (with_reducible assumption) | (with_reducible refine Bb.alloc ?_ _) | (with_reducible refine Bb.drew ?_) | (with_reducible refine Bb.drewN ?_ _) | (refine Bb.set3 (x := .int .i64 0) (y := .slice none 0 0) (z := .slice none 0 0) ?_) | (with_reducible refine Bb.far ?_ (by (try simp only [World.size_alloc, World.size_drew]); omega)) | (with_reducible refine Bb.set ?_ rfl) | (with_reducible refine Bb.grown ?_ (by assumption) (by assumption))))))
          clear hK K
          have hS3 := hS3 (by decide)
          try simp only [Act.put, List.setIfInBounds_toArray, List.set_cons_zero, List.set_cons_succ]
          refine wpAnyX_one (i := 3) (o := _) rfl (by kernel_rfl) (fun K hK => ?_)
          go_simp
          refine (nlp _).mono ?_
          rintro ee wB ⟨r, rfl, hPh, l3, hbB⟩
          have kB : Below (((wA).alloc (.cells #[.int .i64 0, .slice none 0 0, .slice none 0 0] 53)).alloc (.cells #[.int .i64 0, .slice none 0 0, .slice none 0 0] 53)).heap.size (((wA).alloc (.cells #[.int .i64 0, .slice none 0 0, .slice none 0 0] 53)).alloc (.cells #[.int .i64 0, .slice none 0 0, .slice none 0 0] 53)) wB := ⟨hbB.os, hbB.tape, hbB.output, hbB.size, hbB.block⟩
          have hzB := hbB.size
          (try simp only [World.size_alloc, World.size_drew] at hzB l3)
          have hBwB : Below w.heap.size w wB := by (repeat' (first | (with_reducible exact Below.refl _ _) | (with_reducible assumption) | (with_reducible refine Below.alloc ?_ ?_ _) | (with_reducible refine Below.drew ?_) | (with_reducible refine bdN ?_ _) | (with_reducible refine Below.setCell ?_ ?_ _) | (with_reducible refine chn ?_ (by assumption) ?_) | omega | (simp; done) | (simp; omega)))
          have XtwB : Bb wB w.heap.size 53 #[.int .i64 (n : Int), .slice (some ⟨g, 0, none⟩) n c1, .slice (some ⟨h, 0, none⟩) n c2] := (((XtwA).alloc _).alloc _).mono kB
          have XqwB : Bb wB (wA.heap.size) 53 #[.int .i64 0, .slice none 0 0, .slice none 0 0] := ((Bb.new (rfl)).alloc _).mono kB
          have XpwB : Bb wB (wA.heap.size + 1) 53 #[.int .i64 0, .slice none 0 0, .slice none 0 0] := (Bb.new (by simp)).mono kB
          have GxwB : Bk pauliE wB gx 43 (tab n genX) := (((GxwA).alloc _).alloc _).mono kB
          have GzwB : Bk pauliE wB gz 43 (tab n genZ) := (((GzwA).alloc _).alloc _).mono kB
          have PhwB := hPh
          clear hPh
          have lr := PhwB.lt
          clear hbB kB
          refine hK.out _ _ (fun _ => ?_) (fun hS4 => ?_)
          · exact ⟨XtwB.c 0 rfl, XtwB.c 1 rfl, XtwB.c 2 rfl⟩
          clear hK K
          have hS4 := hS4 (by decide)
          try simp only [Act.put, List.setIfInBounds_toArray, List.set_cons_zero, List.set_cons_succ]
          refine wpAnyX_one (i := 7) (o := _) rfl (by kernel_rfl) (fun K hK => ?_)
          have cp0 := XpwB.c 0 rfl
          have cp1 := XpwB.c 1 rfl
          have cp2 := XpwB.c 2 rfl
          have fp := XpwB.f
          have lp := XpwB.lt
          go_simp
          refine hK.out _ _ (fun _ => ?_) (fun hS5 => ?_)
          · (refine ⟨Bb.c (b := w.heap.size) (t := 53) (cs := #[.int .i64 (n : Int), .slice (some ⟨g, 0, none⟩) n c1, .slice (some ⟨h, 0, none⟩) n c2]) ?_ 0 rfl, Bb.c (b := w.heap.size) (t := 53) (cs := #[.int .i64 (n : Int), .slice (some ⟨g, 0, none⟩) n c1, .slice (some ⟨h, 0, none⟩) n c2]) ?_ 1 rfl, Bb.c (b := w.heap.size) (t := 53) (cs := #[.int .i64 (n : Int), .slice (some ⟨g, 0, none⟩) n c1, .slice (some ⟨h, 0, none⟩) n c2]) ?_ 2 rfl⟩ <;> (show Bb _ _ _ _; (repeat' (first | (with_reducible assumption) | (with_reducible refine Bb.alloc ?_ _) | (with_reducible refine Bb.drew ?_) | (with_reducible refine Bb.drewN ?_ _) | (refine Bb.set3 (x := .int .i64 0) (y := .slice none 0 0) (z := .slice none 0 0) ?_) | (with_reducible refine Bb.far ?_ (by (try simp only [World.size_alloc, World.size_drew]); omega)) | (with_reducible refine Bb.set ?_ rfl) | (with_reducible refine Bb.grown ?_ (by assumption) (by assumption))))))
          clear hK K
          have hS5 := hS5 (by decide)
          try simp only [Act.put, List.setIfInBounds_toArray, List.set_cons_zero, List.set_cons_succ]
          refine wpAnyX_take (i := 8) (oi := _) (v := ?_) rfl (by kernel_rfl) (by kernel_rfl) (by kernel_rfl) (by kernel_rfl) (fun _ _ _ h => h) (Or.inl ⟨by rfl, ?_⟩) hS5 ?_
          rotate_left 1
          · (intro w hSw; (try dsimp only at hSw); go_simp; (try with_reducible rfl))
          change wpAnyX _ _ _ _ _ _ _ _ (Act.put _ (some 5) _) _
          try simp only [Act.put, List.setIfInBounds_toArray, List.set_cons_zero, List.set_cons_succ]
          refine wpAnyX_one (i := 9) (o := _) rfl (by kernel_rfl) (fun K hK => ?_)
          have cq0 := XqwB.c 0 rfl
          have cq1 := XqwB.c 1 rfl
          have cq2 := XqwB.c 2 rfl
          have fq := XqwB.f
          have lq := XqwB.lt
          go_simp
          refine hK.out _ _ (fun _ => ?_) (fun hS6 => ?_)
          · (refine ⟨Bb.c (b := w.heap.size) (t := 53) (cs := #[.int .i64 (n : Int), .slice (some ⟨g, 0, none⟩) n c1, .slice (some ⟨h, 0, none⟩) n c2]) ?_ 0 rfl, Bb.c (b := w.heap.size) (t := 53) (cs := #[.int .i64 (n : Int), .slice (some ⟨g, 0, none⟩) n c1, .slice (some ⟨h, 0, none⟩) n c2]) ?_ 1 rfl, Bb.c (b := w.heap.size) (t := 53) (cs := #[.int .i64 (n : Int), .slice (some ⟨g, 0, none⟩) n c1, .slice (some ⟨h, 0, none⟩) n c2]) ?_ 2 rfl⟩ <;> (show Bb _ _ _ _; (repeat' (first | (with_reducible assumption) | (with_reducible refine Bb.alloc ?_ _) | (with_reducible refine Bb.drew ?_) | (with_reducible refine Bb.drewN ?_ _) | (refine Bb.set3 (x := .int .i64 0) (y := .slice none 0 0) (z := .slice none 0 0) ?_) | (with_reducible refine Bb.far ?_ (by (try simp only [World.size_alloc, World.size_drew]); omega)) | (with_reducible refine Bb.set ?_ rfl) | (with_reducible refine Bb.grown ?_ (by assumption) (by assumption))))))
          clear hK K
          have hS6 := hS6 (by decide)
          try simp only [Act.put, List.setIfInBounds_toArray, List.set_cons_zero, List.set_cons_succ]
          refine wpAnyX_done (by kernel_rfl) ?_ _
          go_wp2_with (fail)
          go_meet
          refine ⟨wA.heap.size + 1, r, wA.heap.size, gx, gz, rfl, rfl, rfl, ?_, ?_, ?_, ?_, ?_, ?_, by omega, by omega, by omega, by omega, by omega, by omega, by omega, by omega, ?_⟩
          · show Bb _ _ _ _; (repeat' (first | (with_reducible assumption) | (with_reducible refine Bb.alloc ?_ _) | (with_reducible refine Bb.drew ?_) | (with_reducible refine Bb.drewN ?_ _) | (refine Bb.set3 (x := .int .i64 0) (y := .slice none 0 0) (z := .slice none 0 0) ?_) | (with_reducible refine Bb.far ?_ (by (try simp only [World.size_alloc, World.size_drew]); omega)) | (with_reducible refine Bb.set ?_ rfl) | (with_reducible refine Bb.grown ?_ (by assumption) (by assumption))))
          · show Bb _ _ _ _; (repeat' (first | (with_reducible assumption) | (with_reducible refine Bb.alloc ?_ _) | (with_reducible refine Bb.drew ?_) | (with_reducible refine Bb.drewN ?_ _) | (refine Bb.set3 (x := .int .i64 0) (y := .slice none 0 0) (z := .slice none 0 0) ?_) | (with_reducible refine Bb.far ?_ (by (try simp only [World.size_alloc, World.size_drew]); omega)) | (with_reducible refine Bb.set ?_ rfl) | (with_reducible refine Bb.grown ?_ (by assumption) (by assumption))))
          · show Bb _ _ _ _; (repeat' (first | (with_reducible assumption) | (with_reducible refine Bb.alloc ?_ _) | (with_reducible refine Bb.drew ?_) | (with_reducible refine Bb.drewN ?_ _) | (refine Bb.set3 (x := .int .i64 0) (y := .slice none 0 0) (z := .slice none 0 0) ?_) | (with_reducible refine Bb.far ?_ (by (try simp only [World.size_alloc, World.size_drew]); omega)) | (with_reducible refine Bb.set ?_ rfl) | (with_reducible refine Bb.grown ?_ (by assumption) (by assumption))))
          · show Bk _ _ _ _ _; (repeat (first | (with_reducible assumption) | (with_reducible refine Bk.drew ?_) | (with_reducible refine Bk.alloc ?_ _) | (refine Bk.far ?_ (by dsimp only; omega) _) | (with_reducible refine Bk.mono ?_ (by assumption))))
          · show Bk _ _ _ _ _; (repeat (first | (with_reducible assumption) | (with_reducible refine Bk.drew ?_) | (with_reducible refine Bk.alloc ?_ _) | (refine Bk.far ?_ (by dsimp only; omega) _) | (with_reducible refine Bk.mono ?_ (by assumption))))
          · show PhM _ _ _; (repeat (first | (with_reducible assumption) | (with_reducible refine PhM.drew ?_) | (with_reducible refine PhM.alloc ?_ _) | (refine PhM.far ?_ (by omega)) | (with_reducible refine PhM.mono ?_ (by assumption))))
          · (repeat' (first | (with_reducible exact Below.refl _ _) | (with_reducible assumption) | (with_reducible refine Below.alloc ?_ ?_ _) | (with_reducible refine Below.drew ?_) | (with_reducible refine bdN ?_ _) | (with_reducible refine Below.setCell ?_ ?_ _) | (with_reducible refine chn ?_ (by assumption) ?_) | omega | (simp; done) | (simp; omega)))
    · go_simp
      refine hK.out _ _ (fun _ => ?_) (fun hS1 => ?_)
      · (refine ⟨Bb.c (b := w.heap.size) (t := 53) (cs := #[.int .i64 (n : Int), .slice (some ⟨g, 0, none⟩) n c1, .slice (some ⟨h, 0, none⟩) n c2]) ?_ 0 rfl, Bb.c (b := w.heap.size) (t := 53) (cs := #[.int .i64 (n : Int), .slice (some ⟨g, 0, none⟩) n c1, .slice (some ⟨h, 0, none⟩) n c2]) ?_ 1 rfl, Bb.c (b := w.heap.size) (t := 53) (cs := #[.int .i64 (n : Int), .slice (some ⟨g, 0, none⟩) n c1, .slice (some ⟨h, 0, none⟩) n c2]) ?_ 2 rfl⟩ <;> (show Bb _ _ _ _; (repeat' (first | (with_reducible assumption) | (with_reducible refine Bb.alloc ?_ _) | (with_reducible refine Bb.drew ?_) | (with_reducible refine Bb.drewN ?_ _) | (refine Bb.set3 (x := .int .i64 0) (y := .slice none 0 0) (z := .slice none 0 0) ?_) | (with_reducible refine Bb.far ?_ (by (try simp only [World.size_alloc, World.size_drew]); omega)) | (with_reducible refine Bb.set ?_ rfl) | (with_reducible refine Bb.grown ?_ (by assumption) (by assumption))))))
      clear hK K
      have hS1 := hS1 (by decide)
      try simp only [Act.put, List.setIfInBounds_toArray, List.set_cons_zero, List.set_cons_succ]
      refine wpAnyX_two (i := 2) (j := 6) (oi := _) (oj := _) rfl rfl (by kernel_rfl) (fun K hK => ?_) (fun K hK => ?_)
      · go_simp
        refine (idt q1 q5 _).mono ?_
        rintro ee wA ⟨gx, gz, rfl, hK1, hK2, l1, l2, hne, hbA⟩
        have kA : Below ((w1).alloc (.cells #[.int .i64 0, .slice none 0 0, .slice none 0 0] 53)).heap.size ((w1).alloc (.cells #[.int .i64 0, .slice none 0 0, .slice none 0 0] 53)) wA := ⟨hbA.os, hbA.tape, hbA.output, hbA.size, hbA.block⟩
        have hzA := hbA.size
        (try simp only [World.size_alloc, World.size_drew] at hzA l1 l2)
        have hBwA : Below w.heap.size w wA := by (repeat' (first | (with_reducible exact Below.refl _ _) | (with_reducible assumption) | (with_reducible refine Below.alloc ?_ ?_ _) | (with_reducible refine Below.drew ?_) | (with_reducible refine bdN ?_ _) | (with_reducible refine Below.setCell ?_ ?_ _) | (with_reducible refine chn ?_ (by assumption) ?_) | omega | (simp; done) | (simp; omega)))
        have XtwA : Bb wA w.heap.size 53 #[.int .i64 (n : Int), .slice (some ⟨g, 0, none⟩) n c1, .slice (some ⟨h, 0, none⟩) n c2] := ((Xt.out).alloc _).mono kA
        have XpwA : Bb wA (w1.heap.size) 53 #[.int .i64 0, .slice none 0 0, .slice none 0 0] := (Bb.new (rfl)).mono kA
        have GxwA := hK1
        have GzwA := hK2
        have lgx := hK1.lt
        have lgz := hK2.lt
        clear hK1 hK2
        clear hbA kA
        refine hK.out _ _ (fun _ => ?_) (fun hS2 => ?_)
        · exact ⟨XtwA.c 0 rfl, XtwA.c 1 rfl, XtwA.c 2 rfl⟩
        clear hK K
        have hS2 := hS2 (by decide)
        try simp only [Act.put, List.setIfInBounds_toArray, List.set_cons_zero, List.set_cons_succ]
        refine wpAnyX_two (i := 3) (j := 6) (oi := _) (oj := _) rfl rfl (by kernel_rfl) (fun K hK => ?_) (fun K hK => ?_)
        · go_simp
          refine (nlp _).mono ?_
          rintro ee wB ⟨r, rfl, hPh, l3, hbB⟩
          have kB : Below (wA).heap.size (wA) wB := ⟨hbB.os, hbB.tape, hbB.output, hbB.size, hbB.block⟩
          have hzB := hbB.size
          (try simp only [World.size_alloc, World.size_drew] at hzB l3)
          have hBwB : Below w.heap.size w wB := by (repeat' (first | (with_reducible exact Below.refl _ _) | (with_reducible assumption) | (with_reducible refine Below.alloc ?_ ?_ _) | (with_reducible refine Below.drew ?_) | (with_reducible refine bdN ?_ _) | (with_reducible refine Below.setCell ?_ ?_ _) | (with_reducible refine chn ?_ (by assumption) ?_) | omega | (simp; done) | (simp; omega)))
          have XtwB : Bb wB w.heap.size 53 #[.int .i64 (n : Int), .slice (some ⟨g, 0, none⟩) n c1, .slice (some ⟨h, 0, none⟩) n c2] := (XtwA).mono kB
          have XpwB : Bb wB (w1.heap.size) 53 #[.int .i64 0, .slice none 0 0, .slice none 0 0] := (XpwA).mono kB
          have GxwB : Bk pauliE wB gx 43 (tab n genX) := (GxwA).mono kB
          have GzwB : Bk pauliE wB gz 43 (tab n genZ) := (GzwA).mono kB
          have PhwB := hPh
          clear hPh
          have lr := PhwB.lt
          clear hbB kB
          refine hK.out _ _ (fun _ => ?_) (fun hS3 => ?_)
          · exact ⟨XtwB.c 0 rfl, XtwB.c 1 rfl, XtwB.c 2 rfl⟩
          clear hK K
          have hS3 := hS3 (by decide)
          try simp only [Act.put, List.setIfInBounds_toArray, List.set_cons_zero, List.set_cons_succ]
          refine wpAnyX_one (i := 6) (o := _) rfl (by kernel_rfl) (fun K hK => ?_)
          go_simp
          refine hK.out _ _ (fun _ => ?_) (fun hS4 => ?_)
          · (refine ⟨Bb.c (b := w.heap.size) (t := 53) (cs := #[.int .i64 (n : Int), .slice (some ⟨g, 0, none⟩) n c1, .slice (some ⟨h, 0, none⟩) n c2]) ?_ 0 rfl, Bb.c (b := w.heap.size) (t := 53) (cs := #[.int .i64 (n : Int), .slice (some ⟨g, 0, none⟩) n c1, .slice (some ⟨h, 0, none⟩) n c2]) ?_ 1 rfl, Bb.c (b := w.heap.size) (t := 53) (cs := #[.int .i64 (n : Int), .slice (some ⟨g, 0, none⟩) n c1, .slice (some ⟨h, 0, none⟩) n c2]) ?_ 2 rfl⟩ <;> (show Bb _ _ _ _; (repeat' (first | (with_reducible assumption) | (with_reducible refine Bb.alloc ?_ _) | (with_reducible refine Bb.drew ?_) | (with_reducible refine Bb.drewN ?_ _) | (refine Bb.set3 (x := .int .i64 0) (y := .slice none 0 0) (z := .slice none 0 0) ?_) | (with_reducible refine Bb.far ?_ (by (try simp only [World.size_alloc, World.size_drew]); omega)) | (with_reducible refine Bb.set ?_ rfl) | (with_reducible refine Bb.grown ?_ (by assumption) (by assumption))))))
          clear hK K
          have hS4 := hS4 (by decide)
          try simp only [Act.put, List.setIfInBounds_toArray, List.set_cons_zero, List.set_cons_succ]
          refine wpAnyX_one (i := 7) (o := _) rfl (by kernel_rfl) (fun K hK => ?_)
          have cp0 := XpwB.c 0 rfl
          have cp1 := XpwB.c 1 rfl
          have cp2 := XpwB.c 2 rfl
          have fp := XpwB.f
          have lp := XpwB.lt
          go_simp
          refine hK.out _ _ (fun _ => ?_) (fun hS5 => ?_)
          · (refine ⟨Bb.c (b := w.heap.size) (t := 53) (cs := #[.int .i64 (n : Int), .slice (some ⟨g, 0, none⟩) n c1, .slice (some ⟨h, 0, none⟩) n c2]) ?_ 0 rfl, Bb.c (b := w.heap.size) (t := 53) (cs := #[.int .i64 (n : Int), .slice (some ⟨g, 0, none⟩) n c1, .slice (some ⟨h, 0, none⟩) n c2]) ?_ 1 rfl, Bb.c (b := w.heap.size) (t := 53) (cs := #[.int .i64 (n : Int), .slice (some ⟨g, 0, none⟩) n c1, .slice (some ⟨h, 0, none⟩) n c2]) ?_ 2 rfl⟩ <;> (show Bb _ _ _ _; (repeat' (first | (with_reducible assumption) | (with_reducible refine Bb.alloc ?_ _) | (with_reducible refine Bb.drew ?_) | (with_reducible refine Bb.drewN ?_ _) | (refine Bb.set3 (x := .int .i64 0) (y := .slice none 0 0) (z := .slice none 0 0) ?_) | (with_reducible refine Bb.far ?_ (by (try simp only [World.size_alloc, World.size_drew]); omega)) | (with_reducible refine Bb.set ?_ rfl) | (with_reducible refine Bb.grown ?_ (by assumption) (by assumption))))))
          clear hK K
          have hS5 := hS5 (by decide)
          try simp only [Act.put, List.setIfInBounds_toArray, List.set_cons_zero, List.set_cons_succ]
          refine wpAnyX_take (i := 8) (oi := _) (v := ?_) rfl (by kernel_rfl) (by kernel_rfl) (by kernel_rfl) (by kernel_rfl) (fun _ _ _ h => h) (Or.inl ⟨by rfl, ?_⟩) hS5 ?_
          rotate_left 1
          · (intro w hSw; (try dsimp only at hSw); go_simp; (try with_reducible rfl))
          change wpAnyX _ _ _ _ _ _ _ _ (Act.put _ (some 5) _) _
          try simp only [Act.put, List.setIfInBounds_toArray, List.set_cons_zero, List.set_cons_succ]
          refine wpAnyX_one (i := 9) (o := _) rfl (by kernel_rfl) (fun K hK => ?_)
          go_simp
          refine hK.out _ _ (fun _ => ?_) (fun hS6 => ?_)
          · (refine ⟨Bb.c (b := w.heap.size) (t := 53) (cs := #[.int .i64 (n : Int), .slice (some ⟨g, 0, none⟩) n c1, .slice (some ⟨h, 0, none⟩) n c2]) ?_ 0 rfl, Bb.c (b := w.heap.size) (t := 53) (cs := #[.int .i64 (n : Int), .slice (some ⟨g, 0, none⟩) n c1, .slice (some ⟨h, 0, none⟩) n c2]) ?_ 1 rfl, Bb.c (b := w.heap.size) (t := 53) (cs := #[.int .i64 (n : Int), .slice (some ⟨g, 0, none⟩) n c1, .slice (some ⟨h, 0, none⟩) n c2]) ?_ 2 rfl⟩ <;> (show Bb _ _ _ _; (repeat' (first | (with_reducible assumption) | (with_reducible refine Bb.alloc ?_ _) | (with_reducible refine Bb.drew ?_) | (with_reducible refine Bb.drewN ?_ _) | (refine Bb.set3 (x := .int .i64 0) (y := .slice none 0 0) (z := .slice none 0 0) ?_) | (with_reducible refine Bb.far ?_ (by (try simp only [World.size_alloc, World.size_drew]); omega)) | (with_reducible refine Bb.set ?_ rfl) | (with_reducible refine Bb.grown ?_ (by assumption) (by assumption))))))
          clear hK K
          have hS6 := hS6 (by decide)
          try simp only [Act.put, List.setIfInBounds_toArray, List.set_cons_zero, List.set_cons_succ]
          refine wpAnyX_done (by kernel_rfl) ?_ _
          go_wp2_with (fail)
          go_meet
          refine ⟨w1.heap.size, r, wB.heap.size, gx, gz, rfl, rfl, rfl, ?_, ?_, ?_, ?_, ?_, ?_, by omega, by omega, by omega, by omega, by omega, by omega, by omega, by omega, ?_⟩
          · show Bb _ _ _ _; (repeat' (first | (with_reducible assumption) | (with_reducible refine Bb.alloc ?_ _) | (with_reducible refine Bb.drew ?_) | (with_reducible refine Bb.drewN ?_ _) | (refine Bb.set3 (x := .int .i64 0) (y := .slice none 0 0) (z := .slice none 0 0) ?_) | (with_reducible refine Bb.far ?_ (by (try simp only [World.size_alloc, World.size_drew]); omega)) | (with_reducible refine Bb.set ?_ rfl) | (with_reducible refine Bb.grown ?_ (by assumption) (by assumption))))
          · show Bb _ _ _ _; (repeat' (first | (with_reducible assumption) | (with_reducible refine Bb.alloc ?_ _) | (with_reducible refine Bb.drew ?_) | (with_reducible refine Bb.drewN ?_ _) | (refine Bb.set3 (x := .int .i64 0) (y := .slice none 0 0) (z := .slice none 0 0) ?_) | (with_reducible refine Bb.far ?_ (by (try simp only [World.size_alloc, World.size_drew]); omega)) | (with_reducible refine Bb.set ?_ rfl) | (with_reducible refine Bb.grown ?_ (by assumption) (by assumption))))
          · show Bb _ _ _ _; (try refine Bb.drew ?_); exact Bb.new (by first | rfl | (simp; done))
          · show Bk _ _ _ _ _; (repeat (first | (with_reducible assumption) | (with_reducible refine Bk.drew ?_) | (with_reducible refine Bk.alloc ?_ _) | (refine Bk.far ?_ (by dsimp only; omega) _) | (with_reducible refine Bk.mono ?_ (by assumption))))
          · show Bk _ _ _ _ _; (repeat (first | (with_reducible assumption) | (with_reducible refine Bk.drew ?_) | (with_reducible refine Bk.alloc ?_ _) | (refine Bk.far ?_ (by dsimp only; omega) _) | (with_reducible refine Bk.mono ?_ (by assumption))))
          · show PhM _ _ _; (repeat (first | (with_reducible assumption) | (with_reducible refine PhM.drew ?_) | (with_reducible refine PhM.alloc ?_ _) | (refine PhM.far ?_ (by omega)) | (with_reducible refine PhM.mono ?_ (by assumption))))
          · (repeat' (first | (with_reducible exact Below.refl _ _) | (with_reducible assumption) | (with_reducible refine Below.alloc ?_ ?_ _) | (with_reducible refine Below.drew ?_) | (with_reducible refine bdN ?_ _) | (with_reducible refine Below.setCell ?_ ?_ _) | (with_reducible refine chn ?_ (by assumption) ?_) | omega | (simp; done) | (simp; omega)))
        · go_simp
          refine hK.out _ _ (fun _ => ?_) (fun hS3 => ?_)
          · (refine ⟨Bb.c (b := w.heap.size) (t := 53) (cs := #[.int .i64 (n : Int), .slice (some ⟨g, 0, none⟩) n c1, .slice (some ⟨h, 0, none⟩) n c2]) ?_ 0 rfl, Bb.c (b := w.heap.size) (t := 53) (cs := #[.int .i64 (n : Int), .slice (some ⟨g, 0, none⟩) n c1, .slice (some ⟨h, 0, none⟩) n c2]) ?_ 1 rfl, Bb.c (b := w.heap.size) (t := 53) (cs := #[.int .i64 (n : Int), .slice (some ⟨g, 0, none⟩) n c1, .slice (some ⟨h, 0, none⟩) n c2]) ?_ 2 rfl⟩ <;> (show Bb _ _ _ _; (repeat' (first | (with_reducible assumption) | (with_reducible refine Bb.alloc ?_ _) | (with_reducible refine Bb.drew ?_) | (with_reducible refine Bb.drewN ?_ _) | (refine Bb.set3 (x := .int .i64 0) (y := .slice none 0 0) (z := .slice none 0 0) ?_) | (with_reducible refine Bb.far ?_ (by (try simp only [World.size_alloc, World.size_drew]); omega)) | (with_reducible refine Bb.set ?_ rfl) | (with_reducible refine Bb.grown ?_ (by assumption) (by assumption))))))
          clear hK K
          have hS3 := hS3 (by decide)
          try simp only [Act.put, List.setIfInBounds_toArray, List.set_cons_zero, List.set_cons_succ]
          refine wpAnyX_one (i := 3) (o := _) rfl (by kernel_rfl) (fun K hK => ?_)
          go_simp
          refine (nlp _).mono ?_
          rintro ee wB ⟨r, rfl, hPh, l3, hbB⟩
          have kB : Below ((wA).alloc (.cells #[.int .i64 0, .slice none 0 0, .slice none 0 0] 53)).heap.size ((wA).alloc (.cells #[.int .i64 0, .slice none 0 0, .slice none 0 0] 53)) wB := ⟨hbB.os, hbB.tape, hbB.output, hbB.size, hbB.block⟩
          have hzB := hbB.size
          (try simp only [World.size_alloc, World.size_drew] at hzB l3)
          have hBwB : Below w.heap.size w wB := by (repeat' (first | (with_reducible exact Below.refl _ _) | (with_reducible assumption) | (with_reducible refine Below.alloc ?_ ?_ _) | (with_reducible refine Below.drew ?_) | (with_reducible refine bdN ?_ _) | (with_reducible refine Below.setCell ?_ ?_ _) | (with_reducible refine chn ?_ (by assumption) ?_) | omega | (simp; done) | (simp; omega)))
          have XtwB : Bb wB w.heap.size 53 #[.int .i64 (n : Int), .slice (some ⟨g, 0, none⟩) n c1, .slice (some ⟨h, 0, none⟩) n c2] := ((XtwA).alloc _).mono kB
          have XpwB : Bb wB (w1.heap.size) 53 #[.int .i64 0, .slice none 0 0, .slice none 0 0] := ((XpwA).alloc _).mono kB
          have XqwB : Bb wB (wA.heap.size) 53 #[.int .i64 0, .slice none 0 0, .slice none 0 0] := (Bb.new (rfl)).mono kB
          have GxwB : Bk pauliE wB gx 43 (tab n genX) := ((GxwA).alloc _).mono kB
          have GzwB : Bk pauliE wB gz 43 (tab n genZ) := ((GzwA).alloc _).mono kB
          have PhwB := hPh
          clear hPh
          have lr := PhwB.lt
          clear hbB kB
          refine hK.out _ _ (fun _ => ?_) (fun hS4 => ?_)
          · exact ⟨XtwB.c 0 rfl, XtwB.c 1 rfl, XtwB.c 2 rfl⟩
          clear hK K
          have hS4 := hS4 (by decide)
          try simp only [Act.put, List.setIfInBounds_toArray, List.set_cons_zero, List.set_cons_succ]
          refine wpAnyX_one (i := 7) (o := _) rfl (by kernel_rfl) (fun K hK => ?_)
          have cp0 := XpwB.c 0 rfl
          have cp1 := XpwB.c 1 rfl
          have cp2 := XpwB.c 2 rfl
          have fp := XpwB.f
          have lp := XpwB.lt
          go_simp
          refine hK.out _ _ (fun _ => ?_) (fun hS5 => ?_)
          · (refine ⟨Bb.c (b := w.heap.size) (t := 53) (cs := #[.int .i64 (n : Int), .slice (some ⟨g, 0, none⟩) n c1, .slice (some ⟨h, 0, none⟩) n c2]) ?_ 0 rfl, Bb.c (b := w.heap.size) (t := 53) (cs := #[.int .i64 (n : Int), .slice (some ⟨g, 0, none⟩) n c1, .slice (some ⟨h, 0, none⟩) n c2]) ?_ 1 rfl, Bb.c (b := w.heap.size) (t := 53) (cs := #[.int .i64 (n : Int), .slice (some ⟨g, 0, none⟩) n c1, .slice (some ⟨h, 0, none⟩) n c2]) ?_ 2 rfl⟩ <;> (show Bb _ _ _ _; (repeat' (first | (with_reducible assumption) | (with_reducible refine Bb.alloc ?_ _) | (with_reducible refine Bb.drew ?_) | (with_reducible refine Bb.drewN ?_ _) | (refine Bb.set3 (x := .int .i64 0) (y := .slice none 0 0) (z := .slice none 0 0) ?_) | (with_reducible refine Bb.far ?_ (by (try simp only [World.size_alloc, World.size_drew]); omega)) | (with_reducible refine Bb.set ?_ rfl) | (with_reducible refine Bb.grown ?_ (by assumption) (by assumption))))))
          clear hK K
          have hS5 := hS5 (by decide)
          try simp only [Act.put, List.setIfInBounds_toArray, List.set_cons_zero, List.set_cons_succ]
          refine wpAnyX_take (i := 8) (oi := _) (v := ?_) rfl (by kernel_rfl) (by kernel_rfl) (by kernel_rfl) (by kernel_rfl) (fun _ _ _ h => h) (Or.inl ⟨by rfl, ?_⟩) hS5 ?_
          rotate_left 1
          · (intro w hSw; (try dsimp only at hSw); go_simp; (try with_reducible rfl))
          change wpAnyX _ _ _ _ _ _ _ _ (Act.put _ (some 5) _) _
          try simp only [Act.put, List.setIfInBounds_toArray, List.set_cons_zero, List.set_cons_succ]
          refine wpAnyX_one (i := 9) (o := _) rfl (by kernel_rfl) (fun K hK => ?_)
          have cq0 := XqwB.c 0 rfl
          have cq1 := XqwB.c 1 rfl
          have cq2 := XqwB.c 2 rfl
          have fq := XqwB.f
          have lq := XqwB.lt
          go_simp
          refine hK.out _ _ (fun _ => ?_) (fun hS6 => ?_)
          · (refine ⟨Bb.c (b := w.heap.size) (t := 53) (cs := #[.int .i64 (n : Int), .slice (some ⟨g, 0, none⟩) n c1, .slice (some ⟨h, 0, none⟩) n c2]) ?_ 0 rfl, Bb.c (b := w.heap.size) (t := 53) (cs := #[.int .i64 (n : Int), .slice (some ⟨g, 0, none⟩) n c1, .slice (some ⟨h, 0, none⟩) n c2]) ?_ 1 rfl, Bb.c (b := w.heap.size) (t := 53) (cs := #[.int .i64 (n : Int), .slice (some ⟨g, 0, none⟩) n c1, .slice (some ⟨h, 0, none⟩) n c2]) ?_ 2 rfl⟩ <;> (show Bb _ _ _ _; (repeat' (first | (with_reducible assumption) | (with_reducible refine Bb.alloc ?_ _) | (with_reducible refine Bb.drew ?_) | (with_reducible refine Bb.drewN ?_ _) | (refine Bb.set3 (x := .int .i64 0) (y := .slice none 0 0) (z := .slice none 0 0) ?_) | (with_reducible refine Bb.far ?_ (by (try simp only [World.size_alloc, World.size_drew]); omega)) | (with_reducible refine Bb.set ?_ rfl) | (with_reducible refine Bb.grown ?_ (by assumption) (by assumption))))))
          clear hK K
          have hS6 := hS6 (by decide)
          try simp only [Act.put, List.setIfInBounds_toArray, List.set_cons_zero, List.set_cons_succ]
          refine wpAnyX_done (by kernel_rfl) ?_ _
          go_wp2_with (fail)
          go_meet
          refine ⟨w1.heap.size, r, wA.heap.size, gx, gz, rfl, rfl, rfl, ?_, ?_, ?_, ?_, ?_, ?_, by omega, by omega, by omega, by omega, by omega, by omega, by omega, by omega, ?_⟩
          · show Bb _ _ _ _; (repeat' (first | (with_reducible assumption) | (with_reducible refine Bb.alloc ?_ _) | (with_reducible refine Bb.drew ?_) | (with_reducible refine Bb.drewN ?_ _) | (refine Bb.set3 (x := .int .i64 0) (y := .slice none 0 0) (z := .slice none 0 0) ?_) | (with_reducible refine Bb.far ?_ (by (try simp only [World.size_alloc, World.size_drew]); omega)) | (with_reducible refine Bb.set ?_ rfl) | (with_reducible refine Bb.grown ?_ (by assumption) (by assumption))))
          · show Bb _ _ _ _; (repeat' (first | (with_reducible assumption) | (with_reducible refine Bb.alloc ?_ _) | (with_reducible refine Bb.drew ?_) | (with_reducible refine Bb.drewN ?_ _) | (refine Bb.set3 (x := .int .i64 0) (y := .slice none 0 0) (z := .slice none 0 0) ?_) | (with_reducible refine Bb.far ?_ (by (try simp only [World.size_alloc, World.size_drew]); omega)) | (with_reducible refine Bb.set ?_ rfl) | (with_reducible refine Bb.grown ?_ (by assumption) (by assumption))))
          · show Bb _ _ _ _; (repeat' (first | (with_reducible assumption) | (with_reducible refine Bb.alloc ?_ _) | (with_reducible refine Bb.drew ?_) | (with_reducible refine Bb.drewN ?_ _) | (refine Bb.set3 (x := .int .i64 0) (y := .slice none 0 0) (z := .slice none 0 0) ?_) | (with_reducible refine Bb.far ?_ (by (try simp only [World.size_alloc, World.size_drew]); omega)) | (with_reducible refine Bb.set ?_ rfl) | (with_reducible refine Bb.grown ?_ (by assumption) (by assumption))))
          · show Bk _ _ _ _ _; (repeat (first | (with_reducible assumption) | (with_reducible refine Bk.drew ?_) | (with_reducible refine Bk.alloc ?_ _) | (refine Bk.far ?_ (by dsimp only; omega) _) | (with_reducible refine Bk.mono ?_ (by assumption))))
          · show Bk _ _ _ _ _; (repeat (first | (with_reducible assumption) | (with_reducible refine Bk.drew ?_) | (with_reducible refine Bk.alloc ?_ _) | (refine Bk.far ?_ (by dsimp only; omega) _) | (with_reducible refine Bk.mono ?_ (by assumption))))
          · show PhM _ _ _; (repeat (first | (with_reducible assumption) | (with_reducible refine PhM.drew ?_) | (with_reducible refine PhM.alloc ?_ _) | (refine PhM.far ?_ (by omega)) | (with_reducible refine PhM.mono ?_ (by assumption))))
          · (repeat' (first | (with_reducible exact Below.refl _ _) | (with_reducible assumption) | (with_reducible refine Below.alloc ?_ ?_ _) | (with_reducible refine Below.drew ?_) | (with_reducible refine bdN ?_ _) | (with_reducible refine Below.setCell ?_ ?_ _) | (with_reducible refine chn ?_ (by assumption) ?_) | omega | (simp; done) | (simp; omega)))
      · go_simp
        refine hK.out _ _ (fun _ => ?_) (fun hS2 => ?_)
        · (refine ⟨Bb.c (b := w.heap.size) (t := 53) (cs := #[.int .i64 (n : Int), .slice (some ⟨g, 0, none⟩) n c1, .slice (some ⟨h, 0, none⟩) n c2]) ?_ 0 rfl, Bb.c (b := w.heap.size) (t := 53) (cs := #[.int .i64 (n : Int), .slice (some ⟨g, 0, none⟩) n c1, .slice (some ⟨h, 0, none⟩) n c2]) ?_ 1 rfl, Bb.c (b := w.heap.size) (t := 53) (cs := #[.int .i64 (n : Int), .slice (some ⟨g, 0, none⟩) n c1, .slice (some ⟨h, 0, none⟩) n c2]) ?_ 2 rfl⟩ <;> (show Bb _ _ _ _; (repeat' (first | (with_reducible assumption) | (with_reducible refine Bb.alloc ?_ _) | (with_reducible refine Bb.drew ?_) | (with_reducible refine Bb.drewN ?_ _) | (refine Bb.set3 (x := .int .i64 0) (y := .slice none 0 0) (z := .slice none 0 0) ?_) | (with_reducible refine Bb.far ?_ (by (try simp only [World.size_alloc, World.size_drew]); omega)) | (with_reducible refine Bb.set ?_ rfl) | (with_reducible refine Bb.grown ?_ (by assumption) (by assumption))))))
        clear hK K
        have hS2 := hS2 (by decide)
        try simp only [Act.put, List.setIfInBounds_toArray, List.set_cons_zero, List.set_cons_succ]
        refine wpAnyX_one (i := 2) (o := _) rfl (by kernel_rfl) (fun K hK => ?_)
        go_simp
        refine (idt q1 q5 _).mono ?_
        rintro ee wA ⟨gx, gz, rfl, hK1, hK2, l1, l2, hne, hbA⟩
        have kA : Below (((w1).alloc (.cells #[.int .i64 0, .slice none 0 0, .slice none 0 0] 53)).alloc (.cells #[.int .i64 0, .slice none 0 0, .slice none 0 0] 53)).heap.size (((w1).alloc (.cells #[.int .i64 0, .slice none 0 0, .slice none 0 0] 53)).alloc (.cells #[.int .i64 0, .slice none 0 0, .slice none 0 0] 53)) wA := ⟨hbA.os, hbA.tape, hbA.output, hbA.size, hbA.block⟩
        have hzA := hbA.size
        (try simp only [World.size_alloc, World.size_drew] at hzA l1 l2)
        have hBwA : Below w.heap.size w wA := by (repeat' (first | (with_reducible exact Below.refl _ _) | (with_reducible assumption) | (with_reducible refine Below.alloc ?_ ?_ _) | (with_reducible refine Below.drew ?_) | (with_reducible refine bdN ?_ _) | (with_reducible refine Below.setCell ?_ ?_ _) | (with_reducible refine chn ?_ (by assumption) ?_) | omega | (simp; done) | (simp; omega)))
        have XtwA : Bb wA w.heap.size 53 #[.int .i64 (n : Int), .slice (some ⟨g, 0, none⟩) n c1, .slice (some ⟨h, 0, none⟩) n c2] := (((Xt.out).alloc _).alloc _).mono kA
        have XpwA : Bb wA (w1.heap.size) 53 #[.int .i64 0, .slice none 0 0, .slice none 0 0] := ((Bb.new (rfl)).alloc _).mono kA
        have XqwA : Bb wA (w1.heap.size + 1) 53 #[.int .i64 0, .slice none 0 0, .slice none 0 0] := (Bb.new (by simp)).mono kA
        have GxwA := hK1
        have GzwA := hK2
        have lgx := hK1.lt
        have lgz := hK2.lt
        clear hK1 hK2
        clear hbA kA
        refine hK.out _ _ (fun _ => ?_) (fun hS3 => ?_)
        · exact ⟨XtwA.c 0 rfl, XtwA.c 1 rfl, XtwA.c 2 rfl⟩
        clear hK K
        have hS3 := hS3 (by decide)
        try simp only [Act.put, List.setIfInBounds_toArray, List.set_cons_zero, List.set_cons_succ]
        refine wpAnyX_one (i := 3) (o := _) rfl (by kernel_rfl) (fun K hK => ?_)
        go_simp
        refine (nlp _).mono ?_
        rintro ee wB ⟨r, rfl, hPh, l3, hbB⟩
        have kB : Below (wA).heap.size (wA) wB := ⟨hbB.os, hbB.tape, hbB.output, hbB.size, hbB.block⟩
        have hzB := hbB.size
        (try simp only [World.size_alloc, World.size_drew] at hzB l3)
        have hBwB : Below w.heap.size w wB := by (repeat' (first | (with_reducible exact Below.refl _ _) | (with_reducible assumption) | (with_reducible refine Below.alloc ?_ ?_ _) | (with_reducible refine Below.drew ?_) | (with_reducible refine bdN ?_ _) | (with_reducible refine Below.setCell ?_ ?_ _) | (with_reducible refine chn ?_ (by assumption) ?_) | omega | (simp; done) | (simp; omega)))
        have XtwB : Bb wB w.heap.size 53 #[.int .i64 (n : Int), .slice (some ⟨g, 0, none⟩) n c1, .slice (some ⟨h, 0, none⟩) n c2] := (XtwA).mono kB
        have XpwB : Bb wB (w1.heap.size) 53 #[.int .i64 0, .slice none 0 0, .slice none 0 0] := (XpwA).mono kB
        have XqwB : Bb wB (w1.heap.size + 1) 53 #[.int .i64 0, .slice none 0 0, .slice none 0 0] := (XqwA).mono kB
        have GxwB : Bk pauliE wB gx 43 (tab n genX) := (GxwA).mono kB
        have GzwB : Bk pauliE wB gz 43 (tab n genZ) := (GzwA).mono kB
        have PhwB := hPh
        clear hPh
        have lr := PhwB.lt
        clear hbB kB
        refine hK.out _ _ (fun _ => ?_) (fun hS4 => ?_)
        · exact ⟨XtwB.c 0 rfl, XtwB.c 1 rfl, XtwB.c 2 rfl⟩
        clear hK K
        have hS4 := hS4 (by decide)
        try simp only [Act.put, List.setIfInBounds_toArray, List.set_cons_zero, List.set_cons_succ]
        refine wpAnyX_one (i := 7) (o := _) rfl (by kernel_rfl) (fun K hK => ?_)
        have cp0 := XpwB.c 0 rfl
        have cp1 := XpwB.c 1 rfl
        have cp2 := XpwB.c 2 rfl
        have fp := XpwB.f
        have lp := XpwB.lt
        go_simp
        refine hK.out _ _ (fun _ => ?_) (fun hS5 => ?_)
        · (refine ⟨Bb.c (b := w.heap.size) (t := 53) (cs := #[.int .i64 (n : Int), .slice (some ⟨g, 0, none⟩) n c1, .slice (some ⟨h, 0, none⟩) n c2]) ?_ 0 rfl, Bb.c (b := w.heap.size) (t := 53) (cs := #[.int .i64 (n : Int), .slice (some ⟨g, 0, none⟩) n c1, .slice (some ⟨h, 0, none⟩) n c2]) ?_ 1 rfl, Bb.c (b := w.heap.size) (t := 53) (cs := #[.int .i64 (n : Int), .slice (some ⟨g, 0, none⟩) n c1, .slice (some ⟨h, 0, none⟩) n c2]) ?_ 2 rfl⟩ <;> (show Bb _ _ _ _; (repeat' (first | (with_reducible assumption) | (with_reducible refine Bb.alloc ?_ _) | (with_reducible refine Bb.drew ?_) | (with_reducible refine Bb.drewN ?_ _) | (refine Bb.set3 (x := .int .i64 0) (y := .slice none 0 0) (z := .slice none 0 0) ?_) | (with_reducible refine Bb.far ?_ (by (try simp only [World.size_alloc, World.size_drew]); omega)) | (with_reducible refine Bb.set ?_ rfl) | (with_reducible refine Bb.grown ?_ (by assumption) (by assumption))))))
        clear hK K
        have hS5 := hS5 (by decide)
        try simp only [Act.put, List.setIfInBounds_toArray, List.set_cons_zero, List.set_cons_succ]
        refine wpAnyX_take (i := 8) (oi := _) (v := ?_) rfl (by kernel_rfl) (by kernel_rfl) (by kernel_rfl) (by kernel_rfl) (fun _ _ _ h => h) (Or.inl ⟨by rfl, ?_⟩) hS5 ?_
        rotate_left 1
        · (intro w hSw; (try dsimp only at hSw); go_simp; (try with_reducible rfl))
        change wpAnyX _ _ _ _ _ _ _ _ (Act.put _ (some 5) _) _
        try simp only [Act.put, List.setIfInBounds_toArray, List.set_cons_zero, List.set_cons_succ]
        refine wpAnyX_one (i := 9) (o := _) rfl (by kernel_rfl) (fun K hK => ?_)
        have cq0 := XqwB.c 0 rfl
        have cq1 := XqwB.c 1 rfl
        have cq2 := XqwB.c 2 rfl
        have fq := XqwB.f
        have lq := XqwB.lt
        go_simp
        refine hK.out _ _ (fun _ => ?_) (fun hS6 => ?_)
        · (refine ⟨Bb.c (b := w.heap.size) (t := 53) (cs := #[.int .i64 (n : Int), .slice (some ⟨g, 0, none⟩) n c1, .slice (some ⟨h, 0, none⟩) n c2]) ?_ 0 rfl, Bb.c (b := w.heap.size) (t := 53) (cs := #[.int .i64 (n : Int), .slice (some ⟨g, 0, none⟩) n c1, .slice (some ⟨h, 0, none⟩) n c2]) ?_ 1 rfl, Bb.c (b := w.heap.size) (t := 53) (cs := #[.int .i64 (n : Int), .slice (some ⟨g, 0, none⟩) n c1, .slice (some ⟨h, 0, none⟩) n c2]) ?_ 2 rfl⟩ <;> (show Bb _ _ _ _; (repeat' (first | (with_reducible assumption) | (with_reducible refine Bb.alloc ?_ _) | (with_reducible refine Bb.drew ?_) | (with_reducible refine Bb.drewN ?_ _) | (refine Bb.set3 (x := .int .i64 0) (y := .slice none 0 0) (z := .slice none 0 0) ?_) | (with_reducible refine Bb.far ?_ (by (try simp only [World.size_alloc, World.size_drew]); omega)) | (with_reducible refine Bb.set ?_ rfl) | (with_reducible refine Bb.grown ?_ (by assumption) (by assumption))))))
        clear hK K
        have hS6 := hS6 (by decide)
        try simp only [Act.put, List.setIfInBounds_toArray, List.set_cons_zero, List.set_cons_succ]
        refine wpAnyX_done (by kernel_rfl) ?_ _
        go_wp2_with (fail)
        go_meet
        refine ⟨w1.heap.size, r, w1.heap.size + 1, gx, gz, rfl, rfl, rfl, ?_, ?_, ?_, ?_, ?_, ?_, by omega, by omega, by omega, by omega, by omega, by omega, by omega, by omega, ?_⟩
        · show Bb _ _ _ _; (repeat' (first | (with_reducible assumption) | (with_reducible refine Bb.alloc ?_ _) | (with_reducible refine Bb.drew ?_) | (with_reducible refine Bb.drewN ?_ _) | (refine Bb.set3 (x := .int .i64 0) (y := .slice none 0 0) (z := .slice none 0 0) ?_) | (with_reducible refine Bb.far ?_ (by (try simp only [World.size_alloc, World.size_drew]); omega)) | (with_reducible refine Bb.set ?_ rfl) | (with_reducible refine Bb.grown ?_ (by assumption) (by assumption))))
        · show Bb _ _ _ _; (repeat' (first | (with_reducible assumption) | (with_reducible refine Bb.alloc ?_ _) | (with_reducible refine Bb.drew ?_) | (with_reducible refine Bb.drewN ?_ _) | (refine Bb.set3 (x := .int .i64 0) (y := .slice none 0 0) (z := .slice none 0 0) ?_) | (with_reducible refine Bb.far ?_ (by (try simp only [World.size_alloc, World.size_drew]); omega)) | (with_reducible refine Bb.set ?_ rfl) | (with_reducible refine Bb.grown ?_ (by assumption) (by assumption))))
        · show Bb _ _ _ _; (repeat' (first | (with_reducible assumption) | (with_reducible refine Bb.alloc ?_ _) | (with_reducible refine Bb.drew ?_) | (with_reducible refine Bb.drewN ?_ _) | (refine Bb.set3 (x := .int .i64 0) (y := .slice none 0 0) (z := .slice none 0 0) ?_) | (with_reducible refine Bb.far ?_ (by (try simp only [World.size_alloc, World.size_drew]); omega)) | (with_reducible refine Bb.set ?_ rfl) | (with_reducible refine Bb.grown ?_ (by assumption) (by assumption))))
        · show Bk _ _ _ _ _; (repeat (first | (with_reducible assumption) | (with_reducible refine Bk.drew ?_) | (with_reducible refine Bk.alloc ?_ _) | (refine Bk.far ?_ (by dsimp only; omega) _) | (with_reducible refine Bk.mono ?_ (by assumption))))
        · show Bk _ _ _ _ _; (repeat (first | (with_reducible assumption) | (with_reducible refine Bk.drew ?_) | (with_reducible refine Bk.alloc ?_ _) | (refine Bk.far ?_ (by dsimp only; omega) _) | (with_reducible refine Bk.mono ?_ (by assumption))))
        · show PhM _ _ _; (repeat (first | (with_reducible assumption) | (with_reducible refine PhM.drew ?_) | (with_reducible refine PhM.alloc ?_ _) | (refine PhM.far ?_ (by omega)) | (with_reducible refine PhM.mono ?_ (by assumption))))
        · (repeat' (first | (with_reducible exact Below.refl _ _) | (with_reducible assumption) | (with_reducible refine Below.alloc ?_ ?_ _) | (with_reducible refine Below.drew ?_) | (with_reducible refine bdN ?_ _) | (with_reducible refine Below.setCell ?_ ?_ _) | (with_reducible refine chn ?_ (by assumption) ?_) | omega | (simp; done) | (simp; omega)))
    · go_simp
      refine hK.out _ _ (fun _ => ?_) (fun hS1 => ?_)
      · (refine ⟨Bb.c (b := w.heap.size) (t := 53) (cs := #[.int .i64 (n : Int), .slice (some ⟨g, 0, none⟩) n c1, .slice (some ⟨h, 0, none⟩) n c2]) ?_ 0 rfl, Bb.c (b := w.heap.size) (t := 53) (cs := #[.int .i64 (n : Int), .slice (some ⟨g, 0, none⟩) n c1, .slice (some ⟨h, 0, none⟩) n c2]) ?_ 1 rfl, Bb.c (b := w.heap.size) (t := 53) (cs := #[.int .i64 (n : Int), .slice (some ⟨g, 0, none⟩) n c1, .slice (some ⟨h, 0, none⟩) n c2]) ?_ 2 rfl⟩ <;> (show Bb _ _ _ _; (repeat' (first | (with_reducible assumption) | (with_reducible refine Bb.alloc ?_ _) | (with_reducible refine Bb.drew ?_) | (with_reducible refine Bb.drewN ?_ _) | (refine Bb.set3 (x := .int .i64 0) (y := .slice none 0 0) (z := .slice none 0 0) ?_) | (with_reducible refine Bb.far ?_ (by (try simp only [World.size_alloc, World.size_drew]); omega)) | (with_reducible refine Bb.set ?_ rfl) | (with_reducible refine Bb.grown ?_ (by assumption) (by assumption))))))
      clear hK K
      have hS1 := hS1 (by decide)
      try simp only [Act.put, List.setIfInBounds_toArray, List.set_cons_zero, List.set_cons_succ]
      refine wpAnyX_two (i := 2) (j := 5) (oi := _) (oj := _) rfl rfl (by kernel_rfl) (fun K hK => ?_) (fun K hK => ?_)
      · go_simp
        refine (idt q1 q5 _).mono ?_
        rintro ee wA ⟨gx, gz, rfl, hK1, hK2, l1, l2, hne, hbA⟩
        have kA : Below ((w1).alloc (.cells #[.int .i64 0, .slice none 0 0, .slice none 0 0] 53)).heap.size ((w1).alloc (.cells #[.int .i64 0, .slice none 0 0, .slice none 0 0] 53)) wA := ⟨hbA.os, hbA.tape, hbA.output, hbA.size, hbA.block⟩
        have hzA := hbA.size
        (try simp only [World.size_alloc, World.size_drew] at hzA l1 l2)
        have hBwA : Below w.heap.size w wA := by (repeat' (first | (with_reducible exact Below.refl _ _) | (with_reducible assumption) | (with_reducible refine Below.alloc ?_ ?_ _) | (with_reducible refine Below.drew ?_) | (with_reducible refine bdN ?_ _) | (with_reducible refine Below.setCell ?_ ?_ _) | (with_reducible refine chn ?_ (by assumption) ?_) | omega | (simp; done) | (simp; omega)))
        have XtwA : Bb wA w.heap.size 53 #[.int .i64 (n : Int), .slice (some ⟨g, 0, none⟩) n c1, .slice (some ⟨h, 0, none⟩) n c2] := ((Xt.out).alloc _).mono kA
        have XqwA : Bb wA (w1.heap.size) 53 #[.int .i64 0, .slice none 0 0, .slice none 0 0] := (Bb.new (rfl)).mono kA
        have GxwA := hK1
        have GzwA := hK2
        have lgx := hK1.lt
        have lgz := hK2.lt
        clear hK1 hK2
        clear hbA kA
        refine hK.out _ _ (fun _ => ?_) (fun hS2 => ?_)
        · exact ⟨XtwA.c 0 rfl, XtwA.c 1 rfl, XtwA.c 2 rfl⟩
        clear hK K
        have hS2 := hS2 (by decide)
        try simp only [Act.put, List.setIfInBounds_toArray, List.set_cons_zero, List.set_cons_succ]
        refine wpAnyX_two (i := 3) (j := 5) (oi := _) (oj := _) rfl rfl (by kernel_rfl) (fun K hK => ?_) (fun K hK => ?_)
        · go_simp
          refine (nlp _).mono ?_
          rintro ee wB ⟨r, rfl, hPh, l3, hbB⟩
          have kB : Below (wA).heap.size (wA) wB := ⟨hbB.os, hbB.tape, hbB.output, hbB.size, hbB.block⟩
          have hzB := hbB.size
          (try simp only [World.size_alloc, World.size_drew] at hzB l3)
          have hBwB : Below w.heap.size w wB := by (repeat' (first | (with_reducible exact Below.refl _ _) | (with_reducible assumption) | (with_reducible refine Below.alloc ?_ ?_ _) | (with_reducible refine Below.drew ?_) | (with_reducible refine bdN ?_ _) | (with_reducible refine Below.setCell ?_ ?_ _) | (with_reducible refine chn ?_ (by assumption) ?_) | omega | (simp; done) | (simp; omega)))
          have XtwB : Bb wB w.heap.size 53 #[.int .i64 (n : Int), .slice (some ⟨g, 0, none⟩) n c1, .slice (some ⟨h, 0, none⟩) n c2] := (XtwA).mono kB
          have XqwB : Bb wB (w1.heap.size) 53 #[.int .i64 0, .slice none 0 0, .slice none 0 0] := (XqwA).mono kB
          have GxwB : Bk pauliE wB gx 43 (tab n genX) := (GxwA).mono kB
          have GzwB : Bk pauliE wB gz 43 (tab n genZ) := (GzwA).mono kB
          have PhwB := hPh
          clear hPh
          have lr := PhwB.lt
          clear hbB kB
          refine hK.out _ _ (fun _ => ?_) (fun hS3 => ?_)
          · exact ⟨XtwB.c 0 rfl, XtwB.c 1 rfl, XtwB.c 2 rfl⟩
          clear hK K
          have hS3 := hS3 (by decide)
          try simp only [Act.put, List.setIfInBounds_toArray, List.set_cons_zero, List.set_cons_succ]
          refine wpAnyX_one (i := 5) (o := _) rfl (by kernel_rfl) (fun K hK => ?_)
          go_simp
          refine hK.out _ _ (fun _ => ?_) (fun hS4 => ?_)
          · (refine ⟨Bb.c (b := w.heap.size) (t := 53) (cs := #[.int .i64 (n : Int), .slice (some ⟨g, 0, none⟩) n c1, .slice (some ⟨h, 0, none⟩) n c2]) ?_ 0 rfl, Bb.c (b := w.heap.size) (t := 53) (cs := #[.int .i64 (n : Int), .slice (some ⟨g, 0, none⟩) n c1, .slice (some ⟨h, 0, none⟩) n c2]) ?_ 1 rfl, Bb.c (b := w.heap.size) (t := 53) (cs := #[.int .i64 (n : Int), .slice (some ⟨g, 0, none⟩) n c1, .slice (some ⟨h, 0, none⟩) n c2]) ?_ 2 rfl⟩ <;> (show Bb _ _ _ _; (repeat' (first | (with_reducible assumption) | (with_reducible refine Bb.alloc ?_ _) | (with_reducible refine Bb.drew ?_) | (with_reducible refine Bb.drewN ?_ _) | (refine Bb.set3 (x := .int .i64 0) (y := .slice none 0 0) (z := .slice none 0 0) ?_) | (with_reducible refine Bb.far ?_ (by (try simp only [World.size_alloc, World.size_drew]); omega)) | (with_reducible refine Bb.set ?_ rfl) | (with_reducible refine Bb.grown ?_ (by assumption) (by assumption))))))
          clear hK K
          have hS4 := hS4 (by decide)
          try simp only [Act.put, List.setIfInBounds_toArray, List.set_cons_zero, List.set_cons_succ]
          refine wpAnyX_one (i := 7) (o := _) rfl (by kernel_rfl) (fun K hK => ?_)
          go_simp
          refine hK.out _ _ (fun _ => ?_) (fun hS5 => ?_)
          · (refine ⟨Bb.c (b := w.heap.size) (t := 53) (cs := #[.int .i64 (n : Int), .slice (some ⟨g, 0, none⟩) n c1, .slice (some ⟨h, 0, none⟩) n c2]) ?_ 0 rfl, Bb.c (b := w.heap.size) (t := 53) (cs := #[.int .i64 (n : Int), .slice (some ⟨g, 0, none⟩) n c1, .slice (some ⟨h, 0, none⟩) n c2]) ?_ 1 rfl, Bb.c (b := w.heap.size) (t := 53) (cs := #[.int .i64 (n : Int), .slice (some ⟨g, 0, none⟩) n c1, .slice (some ⟨h, 0, none⟩) n c2]) ?_ 2 rfl⟩ <;> (show Bb _ _ _ _; (repeat' (first | (with_reducible assumption) | (with_reducible refine Bb.alloc ?_ _) | (with_reducible refine Bb.drew ?_) | (with_reducible refine Bb.drewN ?_ _) | (refine Bb.set3 (x := .int .i64 0) (y := .slice none 0 0) (z := .slice none 0 0) ?_) | (with_reducible refine Bb.far ?_ (by (try simp only [World.size_alloc, World.size_drew]); omega)) | (with_reducible refine Bb.set ?_ rfl) | (with_reducible refine Bb.grown ?_ (by assumption) (by assumption))))))
          clear hK K
          have hS5 := hS5 (by decide)
          try simp only [Act.put, List.setIfInBounds_toArray, List.set_cons_zero, List.set_cons_succ]
          refine wpAnyX_take (i := 8) (oi := _) (v := ?_) rfl (by kernel_rfl) (by kernel_rfl) (by kernel_rfl) (by kernel_rfl) (fun _ _ _ h => h) (Or.inl ⟨by rfl, ?_⟩) hS5 ?_
          rotate_left 1
          · (intro w hSw; (try dsimp only at hSw); go_simp; (try with_reducible rfl))
          change wpAnyX _ _ _ _ _ _ _ _ (Act.put _ (some 5) _) _
          try simp only [Act.put, List.setIfInBounds_toArray, List.set_cons_zero, List.set_cons_succ]
          refine wpAnyX_one (i := 9) (o := _) rfl (by kernel_rfl) (fun K hK => ?_)
          have cq0 := XqwB.c 0 rfl
          have cq1 := XqwB.c 1 rfl
          have cq2 := XqwB.c 2 rfl
          have fq := XqwB.f
          have lq := XqwB.lt
          go_simp
          refine hK.out _ _ (fun _ => ?_) (fun hS6 => ?_)
          · (refine ⟨Bb.c (b := w.heap.size) (t := 53) (cs := #[.int .i64 (n : Int), .slice (some ⟨g, 0, none⟩) n c1, .slice (some ⟨h, 0, none⟩) n c2]) ?_ 0 rfl, Bb.c (b := w.heap.size) (t := 53) (cs := #[.int .i64 (n : Int), .slice (some ⟨g, 0, none⟩) n c1, .slice (some ⟨h, 0, none⟩) n c2]) ?_ 1 rfl, Bb.c (b := w.heap.size) (t := 53) (cs := #[.int .i64 (n : Int), .slice (some ⟨g, 0, none⟩) n c1, .slice (some ⟨h, 0, none⟩) n c2]) ?_ 2 rfl⟩ <;> (show Bb _ _ _ _; (repeat' (first | (with_reducible assumption) | (with_reducible refine Bb.alloc ?_ _) | (with_reducible refine Bb.drew ?_) | (with_reducible refine Bb.drewN ?_ _) | (refine Bb.set3 (x := .int .i64 0) (y := .slice none 0 0) (z := .slice none 0 0) ?_) | (with_reducible refine Bb.far ?_ (by (try simp only [World.size_alloc, World.size_drew]); omega)) | (with_reducible refine Bb.set ?_ rfl) | (with_reducible refine Bb.grown ?_ (by assumption) (by assumption))))))
          clear hK K
          have hS6 := hS6 (by decide)
          try simp only [Act.put, List.setIfInBounds_toArray, List.set_cons_zero, List.set_cons_succ]
          refine wpAnyX_done (by kernel_rfl) ?_ _
          go_wp2_with (fail)
          go_meet
          refine ⟨wB.heap.size, r, w1.heap.size, gx, gz, rfl, rfl, rfl, ?_, ?_, ?_, ?_, ?_, ?_, by omega, by omega, by omega, by omega, by omega, by omega, by omega, by omega, ?_⟩
          · show Bb _ _ _ _; (repeat' (first | (with_reducible assumption) | (with_reducible refine Bb.alloc ?_ _) | (with_reducible refine Bb.drew ?_) | (with_reducible refine Bb.drewN ?_ _) | (refine Bb.set3 (x := .int .i64 0) (y := .slice none 0 0) (z := .slice none 0 0) ?_) | (with_reducible refine Bb.far ?_ (by (try simp only [World.size_alloc, World.size_drew]); omega)) | (with_reducible refine Bb.set ?_ rfl) | (with_reducible refine Bb.grown ?_ (by assumption) (by assumption))))
          · show Bb _ _ _ _; (try refine Bb.drew ?_); exact Bb.new (by first | rfl | (simp; done))
          · show Bb _ _ _ _; (repeat' (first | (with_reducible assumption) | (with_reducible refine Bb.alloc ?_ _) | (with_reducible refine Bb.drew ?_) | (with_reducible refine Bb.drewN ?_ _) | (refine Bb.set3 (x := .int .i64 0) (y := .slice none 0 0) (z := .slice none 0 0) ?_) | (with_reducible refine Bb.far ?_ (by (try simp only [World.size_alloc, World.size_drew]); omega)) | (with_reducible refine Bb.set ?_ rfl) | (with_reducible refine Bb.grown ?_ (by assumption) (by assumption))))
          · show Bk _ _ _ _ _; (repeat (first | (with_reducible assumption) | (with_reducible refine Bk.drew ?_) | (with_reducible refine Bk.alloc ?_ _) | (refine Bk.far ?_ (by dsimp only; omega) _) | (with_reducible refine Bk.mono ?_ (by assumption))))
          · show Bk _ _ _ _ _; (repeat (first | (with_reducible assumption) | (with_reducible refine Bk.drew ?_) | (with_reducible refine Bk.alloc ?_ _) | (refine Bk.far ?_ (by dsimp only; omega) _) | (with_reducible refine Bk.mono ?_ (by assumption))))
          · show PhM _ _ _; (repeat (first | (with_reducible assumption) | (with_reducible refine PhM.drew ?_) | (with_reducible refine PhM.alloc ?_ _) | (refine PhM.far ?_ (by omega)) | (with_reducible refine PhM.mono ?_ (by assumption))))
          · (repeat' (first | (with_reducible exact Below.refl _ _) | (with_reducible assumption) | (with_reducible refine Below.alloc ?_ ?_ _) | (with_reducible refine Below.drew ?_) | (with_reducible refine bdN ?_ _) | (with_reducible refine Below.setCell ?_ ?_ _) | (with_reducible refine chn ?_ (by assumption) ?_) | omega | (simp; done) | (simp; omega)))
        · go_simp
          refine hK.out _ _ (fun _ => ?_) (fun hS3 => ?_)
          · (refine ⟨Bb.c (b := w.heap.size) (t := 53) (cs := #[.int .i64 (n : Int), .slice (some ⟨g, 0, none⟩) n c1, .slice (some ⟨h, 0, none⟩) n c2]) ?_ 0 rfl, Bb.c (b := w.heap.size) (t := 53) (cs := #[.int .i64 (n : Int), .slice (some ⟨g, 0, none⟩) n c1, .slice (some ⟨h, 0, none⟩) n c2]) ?_ 1 rfl, Bb.c (b := w.heap.size) (t := 53) (cs := #[.int .i64 (n : Int), .slice (some ⟨g, 0, none⟩) n c1, .slice (some ⟨h, 0, none⟩) n c2]) ?_ 2 rfl⟩ <;> (show Bb _ _ _ _; (repeat' (first | (with_reducible assumption) | (with_reducible refine Bb.alloc ?_ _) | (with_reducible refine Bb.drew ?_) | (with_reducible refine Bb.drewN ?_ _) | (refine Bb.set3 (x := .int .i64 0) (y := .slice none 0 0) (z := .slice none 0 0) ?_) | (with_reducible refine Bb.far ?_ (by (try simp only [World.size_alloc, World.size_drew]); omega)) | (with_reducible refine Bb.set ?_ rfl) | (with_reducible refine Bb.grown ?_ (by assumption) (by assumption))))))
          clear hK K
          have hS3 := hS3 (by decide)
          try simp only [Act.put, List.setIfInBounds_toArray, List.set_cons_zero, List.set_cons_succ]
          refine wpAnyX_one (i := 3) (o := _) rfl (by kernel_rfl) (fun K hK => ?_)
          go_simp
          refine (nlp _).mono ?_
          rintro ee wB ⟨r, rfl, hPh, l3, hbB⟩
          have kB : Below ((wA).alloc (.cells #[.int .i64 0, .slice none 0 0, .slice none 0 0] 53)).heap.size ((wA).alloc (.cells #[.int .i64 0, .slice none 0 0, .slice none 0 0] 53)) wB := ⟨hbB.os, hbB.tape, hbB.output, hbB.size, hbB.block⟩
          have hzB := hbB.size
          (try simp only [World.size_alloc, World.size_drew] at hzB l3)
          have hBwB : Below w.heap.size w wB := by (repeat' (first | (with_reducible exact Below.refl _ _) | (with_reducible assumption) | (with_reducible refine Below.alloc ?_ ?_ _) | (with_reducible refine Below.drew ?_) | (with_reducible refine bdN ?_ _) | (with_reducible refine Below.setCell ?_ ?_ _) | (with_reducible refine chn ?_ (by assumption) ?_) | omega | (simp; done) | (simp; omega)))
          have XtwB : Bb wB w.heap.size 53 #[.int .i64 (n : Int), .slice (some ⟨g, 0, none⟩) n c1, .slice (some ⟨h, 0, none⟩) n c2] := ((XtwA).alloc _).mono kB
          have XqwB : Bb wB (w1.heap.size) 53 #[.int .i64 0, .slice none 0 0, .slice none 0 0] := ((XqwA).alloc _).mono kB
          have XpwB : Bb wB (wA.heap.size) 53 #[.int .i64 0, .slice none 0 0, .slice none 0 0] := (Bb.new (rfl)).mono kB
          have GxwB : Bk pauliE wB gx 43 (tab n genX) := ((GxwA).alloc _).mono kB
          have GzwB : Bk pauliE wB gz 43 (tab n genZ) := ((GzwA).alloc _).mono kB
          have PhwB := hPh
          clear hPh
          have lr := PhwB.lt
          clear hbB kB
          refine hK.out _ _ (fun _ => ?_) (fun hS4 => ?_)
          · exact ⟨XtwB.c 0 rfl, XtwB.c 1 rfl, XtwB.c 2 rfl⟩
          clear hK K
          have hS4 := hS4 (by decide)
          try simp only [Act.put, List.setIfInBounds_toArray, List.set_cons_zero, List.set_cons_succ]
          refine wpAnyX_one (i := 7) (o := _) rfl (by kernel_rfl) (fun K hK => ?_)
          have cp0 := XpwB.c 0 rfl
          have cp1 := XpwB.c 1 rfl
          have cp2 := XpwB.c 2 rfl
          have fp := XpwB.f
          have lp := XpwB.lt
          go_simp
          refine hK.out _ _ (fun _ => ?_) (fun hS5 => ?_)
          · (refine ⟨Bb.c (b := w.heap.size) (t := 53) (cs := #[.int .i64 (n : Int), .slice (some ⟨g, 0, none⟩) n c1, .slice (some ⟨h, 0, none⟩) n c2]) ?_ 0 rfl, Bb.c (b := w.heap.size) (t := 53) (cs := #[.int .i64 (n : Int), .slice (some ⟨g, 0, none⟩) n c1, .slice (some ⟨h, 0, none⟩) n c2]) ?_ 1 rfl, Bb.c (b := w.heap.size) (t := 53) (cs := #[.int .i64 (n : Int), .slice (some ⟨g, 0, none⟩) n c1, .slice (some ⟨h, 0, none⟩) n c2]) ?_ 2 rfl⟩ <;> (show Bb _ _ _ _; (repeat' (first | (with_reducible assumption) | (with_reducible refine Bb.alloc ?_ _) | (with_reducible refine Bb.drew ?_) | (with_reducible refine Bb.drewN ?_ _) | (refine Bb.set3 (x := .int .i64 0) (y := .slice none 0 0) (z := .slice none 0 0) ?_) | (with_reducible refine Bb.far ?_ (by (try simp only [World.size_alloc, World.size_drew]); omega)) | (with_reducible refine Bb.set ?_ rfl) | (with_reducible refine Bb.grown ?_ (by assumption) (by assumption))))))
          clear hK K
          have hS5 := hS5 (by decide)
          try simp only [Act.put, List.setIfInBounds_toArray, List.set_cons_zero, List.set_cons_succ]
          refine wpAnyX_take (i := 8) (oi := _) (v := ?_) rfl (by kernel_rfl) (by kernel_rfl) (by kernel_rfl) (by kernel_rfl) (fun _ _ _ h => h) (Or.inl ⟨by rfl, ?_⟩) hS5 ?_
          rotate_left 1
          · (intro w hSw; (try dsimp only at hSw); go_simp; (try with_reducible rfl))
          change wpAnyX _ _ _ _ _ _ _ _ (Act.put _ (some 5) _) _
          try simp only [Act.put, List.setIfInBounds_toArray, List.set_cons_zero, List.set_cons_succ]
          refine wpAnyX_one (i := 9) (o := _) rfl (by kernel_rfl) (fun K hK => ?_)
          have cq0 := XqwB.c 0 rfl
          have cq1 := XqwB.c 1 rfl
          have cq2 := XqwB.c 2 rfl
          have fq := XqwB.f
          have lq := XqwB.lt
          go_simp
          refine hK.out _ _ (fun _ => ?_) (fun hS6 => ?_)
          · (refine ⟨Bb.c (b := w.heap.size) (t := 53) (cs := #[.int .i64 (n : Int), .slice (some ⟨g, 0, none⟩) n c1, .slice (some ⟨h, 0, none⟩) n c2]) ?_ 0 rfl, Bb.c (b := w.heap.size) (t := 53) (cs := #[.int .i64 (n : Int), .slice (some ⟨g, 0, none⟩) n c1, .slice (some ⟨h, 0, none⟩) n c2]) ?_ 1 rfl, Bb.c (b := w.heap.size) (t := 53) (cs := #[.int .i64 (n : Int), .slice (some ⟨g, 0, none⟩) n c1, .slice (some ⟨h, 0, none⟩) n c2]) ?_ 2 rfl⟩ <;> (show Bb _ _ _ _; (repeat' (first | (with_reducible assumption) | (with_reducible refine Bb.alloc ?_ _) | (with_reducible refine Bb.drew ?_) | (with_reducible refine Bb.drewN ?_ _) | (refine Bb.set3 (x := .int .i64 0) (y := .slice none 0 0) (z := .slice none 0 0) ?_) | (with_reducible refine Bb.far ?_ (by (try simp only [World.size_alloc, World.size_drew]); omega)) | (with_reducible refine Bb.set ?_ rfl) | (with_reducible refine Bb.grown ?_ (by assumption) (by assumption))))))
          clear hK K
          have hS6 := hS6 (by decide)
          try simp only [Act.put, List.setIfInBounds_toArray, List.set_cons_zero, List.set_cons_succ]
          refine wpAnyX_done (by kernel_rfl) ?_ _
          go_wp2_with (fail)
          go_meet
          refine ⟨wA.heap.size, r, w1.heap.size, gx, gz, rfl, rfl, rfl, ?_, ?_, ?_, ?_, ?_, ?_, by omega, by omega, by omega, by omega, by omega, by omega, by omega, by omega, ?_⟩
          · show Bb _ _ _ _; (repeat' (first | (with_reducible assumption) | (with_reducible refine Bb.alloc ?_ _) | (with_reducible refine Bb.drew ?_) | (with_reducible refine Bb.drewN ?_ _) | (refine Bb.set3 (x := .int .i64 0) (y := .slice none 0 0) (z := .slice none 0 0) ?_) | (with_reducible refine Bb.far ?_ (by (try simp only [World.size_alloc, World.size_drew]); omega)) | (with_reducible refine Bb.set ?_ rfl) | (with_reducible refine Bb.grown ?_ (by assumption) (by assumption))))
          · show Bb _ _ _ _; (repeat' (first | (with_reducible assumption) | (with_reducible refine Bb.alloc ?_ _) | (with_reducible refine Bb.drew ?_) | (with_reducible refine Bb.drewN ?_ _) | (refine Bb.set3 (x := .int .i64 0) (y := .slice none 0 0) (z := .slice none 0 0) ?_) | (with_reducible refine Bb.far ?_ (by (try simp only [World.size_alloc, World.size_drew]); omega)) | (with_reducible refine Bb.set ?_ rfl) | (with_reducible refine Bb.grown ?_ (by assumption) (by assumption))))
          · show Bb _ _ _ _; (repeat' (first | (with_reducible assumption) | (with_reducible refine Bb.alloc ?_ _) | (with_reducible refine Bb.drew ?_) | (with_reducible refine Bb.drewN ?_ _) | (refine Bb.set3 (x := .int .i64 0) (y := .slice none 0 0) (z := .slice none 0 0) ?_) | (with_reducible refine Bb.far ?_ (by (try simp only [World.size_alloc, World.size_drew]); omega)) | (with_reducible refine Bb.set ?_ rfl) | (with_reducible refine Bb.grown ?_ (by assumption) (by assumption))))
          · show Bk _ _ _ _ _; (repeat (first | (with_reducible assumption) | (with_reducible refine Bk.drew ?_) | (with_reducible refine Bk.alloc ?_ _) | (refine Bk.far ?_ (by dsimp only; omega) _) | (with_reducible refine Bk.mono ?_ (by assumption))))
          · show Bk _ _ _ _ _; (repeat (first | (with_reducible assumption) | (with_reducible refine Bk.drew ?_) | (with_reducible refine Bk.alloc ?_ _) | (refine Bk.far ?_ (by dsimp only; omega) _) | (with_reducible refine Bk.mono ?_ (by assumption))))
          · show PhM _ _ _; (repeat (first | (with_reducible assumption) | (with_reducible refine PhM.drew ?_) | (with_reducible refine PhM.alloc ?_ _) | (refine PhM.far ?_ (by omega)) | (with_reducible refine PhM.mono ?_ (by assumption))))
          · (repeat' (first | (with_reducible exact Below.refl _ _) | (with_reducible assumption) | (with_reducible refine Below.alloc ?_ ?_ _) | (with_reducible refine Below.drew ?_) | (with_reducible refine bdN ?_ _) | (with_reducible refine Below.setCell ?_ ?_ _) | (with_reducible refine chn ?_ (by assumption) ?_) | omega | (simp; done) | (simp; omega)))
      · go_simp
        refine hK.out _ _ (fun _ => ?_) (fun hS2 => ?_)
        · (refine ⟨Bb.c (b := w.heap.size) (t := 53) (cs := #[.int .i64 (n : Int), .slice (some ⟨g, 0, none⟩) n c1, .slice (some ⟨h, 0, none⟩) n c2]) ?_ 0 rfl, Bb.c (b := w.heap.size) (t := 53) (cs := #[.int .i64 (n : Int), .slice (some ⟨g, 0, none⟩) n c1, .slice (some ⟨h, 0, none⟩) n c2]) ?_ 1 rfl, Bb.c (b := w.heap.size) (t := 53) (cs := #[.int .i64 (n : Int), .slice (some ⟨g, 0, none⟩) n c1, .slice (some ⟨h, 0, none⟩) n c2]) ?_ 2 rfl⟩ <;> (show Bb _ _ _ _; (repeat' (first | (with_reducible assumption) | (with_reducible refine Bb.alloc ?_ _) | (with_reducible refine Bb.drew ?_) | (with_reducible refine Bb.drewN ?_ _) | (refine Bb.set3 (x := .int .i64 0) (y := .slice none 0 0) (z := .slice none 0 0) ?_) | (with_reducible refine Bb.far ?_ (by (try simp only [World.size_alloc, World.size_drew]); omega)) | (with_reducible refine Bb.set ?_ rfl) | (with_reducible refine Bb.grown ?_ (by assumption) (by assumption))))))
        clear hK K
        have hS2 := hS2 (by decide)
        try simp only [Act.put, List.setIfInBounds_toArray, List.set_cons_zero, List.set_cons_succ]
        refine wpAnyX_one (i := 2) (o := _) rfl (by kernel_rfl) (fun K hK => ?_)
        go_simp
        refine (idt q1 q5 _).mono ?_
        rintro ee wA ⟨gx, gz, rfl, hK1, hK2, l1, l2, hne, hbA⟩
        have kA : Below (((w1).alloc (.cells #[.int .i64 0, .slice none 0 0, .slice none 0 0] 53)).alloc (.cells #[.int .i64 0, .slice none 0 0, .slice none 0 0] 53)).heap.size (((w1).alloc (.cells #[.int .i64 0, .slice none 0 0, .slice none 0 0] 53)).alloc (.cells #[.int .i64 0, .slice none 0 0, .slice none 0 0] 53)) wA := ⟨hbA.os, hbA.tape, hbA.output, hbA.size, hbA.block⟩
        have hzA := hbA.size
        (try simp only [World.size_alloc, World.size_drew] at hzA l1 l2)
        have hBwA : Below w.heap.size w wA := by (repeat' (first | (with_reducible exact Below.refl _ _) | (with_reducible assumption) | (with_reducible refine Below.alloc ?_ ?_ _) | (with_reducible refine Below.drew ?_) | (with_reducible refine bdN ?_ _) | (with_reducible refine Below.setCell ?_ ?_ _) | (with_reducible refine chn ?_ (by assumption) ?_) | omega | (simp; done) | (simp; omega)))
        have XtwA : Bb wA w.heap.size 53 #[.int .i64 (n : Int), .slice (some ⟨g, 0, none⟩) n c1, .slice (some ⟨h, 0, none⟩) n c2] := (((Xt.out).alloc _).alloc _).mono kA
        have XqwA : Bb wA (w1.heap.size) 53 #[.int .i64 0, .slice none 0 0, .slice none 0 0] := ((Bb.new (rfl)).alloc _).mono kA
        have XpwA : Bb wA (w1.heap.size + 1) 53 #[.int .i64 0, .slice none 0 0, .slice none 0 0] := (Bb.new (by simp)).mono kA
        have GxwA := hK1
        have GzwA := hK2
        have lgx := hK1.lt
        have lgz := hK2.lt
        clear hK1 hK2
        clear hbA kA
        refine hK.out _ _ (fun _ => ?_) (fun hS3 => ?_)
        · exact ⟨XtwA.c 0 rfl, XtwA.c 1 rfl, XtwA.c 2 rfl⟩
        clear hK K
        have hS3 := hS3 (by decide)
        try simp only [Act.put, List.setIfInBounds_toArray, List.set_cons_zero, List.set_cons_succ]
        refine wpAnyX_one (i := 3) (o := _) rfl (by kernel_rfl) (fun K hK => ?_)
        go_simp
        refine (nlp _).mono ?_
        rintro ee wB ⟨r, rfl, hPh, l3, hbB⟩
        have kB : Below (wA).heap.size (wA) wB := ⟨hbB.os, hbB.tape, hbB.output, hbB.size, hbB.block⟩
        have hzB := hbB.size
        (try simp only [World.size_alloc, World.size_drew] at hzB l3)
        have hBwB : Below w.heap.size w wB := by (repeat' (first | (with_reducible exact Below.refl _ _) | (with_reducible assumption) | (with_reducible refine Below.alloc ?_ ?_ _) | (with_reducible refine Below.drew ?_) | (with_reducible refine bdN ?_ _) | (with_reducible refine Below.setCell ?_ ?_ _) | (with_reducible refine chn ?_ (by assumption) ?_) | omega | (simp; done) | (simp; omega)))
        have XtwB : Bb wB w.heap.size 53 #[.int .i64 (n : Int), .slice (some ⟨g, 0, none⟩) n c1, .slice (some ⟨h, 0, none⟩) n c2] := (XtwA).mono kB
        have XqwB : Bb wB (w1.heap.size) 53 #[.int .i64 0, .slice none 0 0, .slice none 0 0] := (XqwA).mono kB
        have XpwB : Bb wB (w1.heap.size + 1) 53 #[.int .i64 0, .slice none 0 0, .slice none 0 0] := (XpwA).mono kB
        have GxwB : Bk pauliE wB gx 43 (tab n genX) := (GxwA).mono kB
        have GzwB : Bk pauliE wB gz 43 (tab n genZ) := (GzwA).mono kB
        have PhwB := hPh
        clear hPh
        have lr := PhwB.lt
        clear hbB kB
        refine hK.out _ _ (fun _ => ?_) (fun hS4 => ?_)
        · exact ⟨XtwB.c 0 rfl, XtwB.c 1 rfl, XtwB.c 2 rfl⟩
        clear hK K
        have hS4 := hS4 (by decide)
        try simp only [Act.put, List.setIfInBounds_toArray, List.set_cons_zero, List.set_cons_succ]
        refine wpAnyX_one (i := 7) (o := _) rfl (by kernel_rfl) (fun K hK => ?_)
        have cp0 := XpwB.c 0 rfl
        have cp1 := XpwB.c 1 rfl
        have cp2 := XpwB.c 2 rfl
        have fp := XpwB.f
        have lp := XpwB.lt
        go_simp
        refine hK.out _ _ (fun _ => ?_) (fun hS5 => ?_)
        · (refine ⟨Bb.c (b := w.heap.size) (t := 53) (cs := #[.int .i64 (n : Int), .slice (some ⟨g, 0, none⟩) n c1, .slice (some ⟨h, 0, none⟩) n c2]) ?_ 0 rfl, Bb.c (b := w.heap.size) (t := 53) (cs := #[.int .i64 (n : Int), .slice (some ⟨g, 0, none⟩) n c1, .slice (some ⟨h, 0, none⟩) n c2]) ?_ 1 rfl, Bb.c (b := w.heap.size) (t := 53) (cs := #[.int .i64 (n : Int), .slice (some ⟨g, 0, none⟩) n c1, .slice (some ⟨h, 0, none⟩) n c2]) ?_ 2 rfl⟩ <;> (show Bb _ _ _ _; (repeat' (first | (with_reducible assumption) | (with_reducible refine Bb.alloc ?_ _) | (with_reducible refine Bb.drew ?_) | (with_reducible refine Bb.drewN ?_ _) | (refine Bb.set3 (x := .int .i64 0) (y := .slice none 0 0) (z := .slice none 0 0) ?_) | (with_reducible refine Bb.far ?_ (by (try simp only [World.size_alloc, World.size_drew]); omega)) | (with_reducible refine Bb.set ?_ rfl) | (with_reducible refine Bb.grown ?_ (by assumption) (by assumption))))))
        clear hK K
        have hS5 := hS5 (by decide)
        try simp only [Act.put, List.setIfInBounds_toArray, List.set_cons_zero, List.set_cons_succ]
        refine wpAnyX_take (i := 8) (oi := _) (v := ?_) rfl (by kernel_rfl) (by kernel_rfl) (by kernel_rfl) (by kernel_rfl) (fun _ _ _ h => h) (Or.inl ⟨by rfl, ?_⟩) hS5 ?_
        rotate_left 1
        · (intro w hSw; (try dsimp only at hSw); go_simp; (try with_reducible rfl))
        change wpAnyX _ _ _ _ _ _ _ _ (Act.put _ (some 5) _) _
        try simp only [Act.put, List.setIfInBounds_toArray, List.set_cons_zero, List.set_cons_succ]
        refine wpAnyX_one (i := 9) (o := _) rfl (by kernel_rfl) (fun K hK => ?_)
        have cq0 := XqwB.c 0 rfl
        have cq1 := XqwB.c 1 rfl
        have cq2 := XqwB.c 2 rfl
        have fq := XqwB.f
        have lq := XqwB.lt
        go_simp
        refine hK.out _ _ (fun _ => ?_) (fun hS6 => ?_)
        · (refine ⟨Bb.c (b := w.heap.size) (t := 53) (cs := #[.int .i64 (n : Int), .slice (some ⟨g, 0, none⟩) n c1, .slice (some ⟨h, 0, none⟩) n c2]) ?_ 0 rfl, Bb.c (b := w.heap.size) (t := 53) (cs := #[.int .i64 (n : Int), .slice (some ⟨g, 0, none⟩) n c1, .slice (some ⟨h, 0, none⟩) n c2]) ?_ 1 rfl, Bb.c (b := w.heap.size) (t := 53) (cs := #[.int .i64 (n : Int), .slice (some ⟨g, 0, none⟩) n c1, .slice (some ⟨h, 0, none⟩) n c2]) ?_ 2 rfl⟩ <;> (show Bb _ _ _ _; (repeat' (first | (with_reducible assumption) | (with_reducible refine Bb.alloc ?_ _) | (with_reducible refine Bb.drew ?_) | (with_reducible refine Bb.drewN ?_ _) | (refine Bb.set3 (x := .int .i64 0) (y := .slice none 0 0) (z := .slice none 0 0) ?_) | (with_reducible refine Bb.far ?_ (by (try simp only [World.size_alloc, World.size_drew]); omega)) | (with_reducible refine Bb.set ?_ rfl) | (with_reducible refine Bb.grown ?_ (by assumption) (by assumption))))))
        clear hK K
        have hS6 := hS6 (by decide)
        try simp only [Act.put, List.setIfInBounds_toArray, List.set_cons_zero, List.set_cons_succ]
        refine wpAnyX_done (by kernel_rfl) ?_ _
        go_wp2_with (fail)
        go_meet
        refine ⟨w1.heap.size + 1, r, w1.heap.size, gx, gz, rfl, rfl, rfl, ?_, ?_, ?_, ?_, ?_, ?_, by omega, by omega, by omega, by omega, by omega, by omega, by omega, by omega, ?_⟩
        · show Bb _ _ _ _; (repeat' (first | (with_reducible assumption) | (with_reducible refine Bb.alloc ?_ _) | (with_reducible refine Bb.drew ?_) | (with_reducible refine Bb.drewN ?_ _) | (refine Bb.set3 (x := .int .i64 0) (y := .slice none 0 0) (z := .slice none 0 0) ?_) | (with_reducible refine Bb.far ?_ (by (try simp only [World.size_alloc, World.size_drew]); omega)) | (with_reducible refine Bb.set ?_ rfl) | (with_reducible refine Bb.grown ?_ (by assumption) (by assumption))))
        · show Bb _ _ _ _; (repeat' (first | (with_reducible assumption) | (with_reducible refine Bb.alloc ?_ _) | (with_reducible refine Bb.drew ?_) | (with_reducible refine Bb.drewN ?_ _) | (refine Bb.set3 (x := .int .i64 0) (y := .slice none 0 0) (z := .slice none 0 0) ?_) | (with_reducible refine Bb.far ?_ (by (try simp only [World.size_alloc, World.size_drew]); omega)) | (with_reducible refine Bb.set ?_ rfl) | (with_reducible refine Bb.grown ?_ (by assumption) (by assumption))))
        · show Bb _ _ _ _; (repeat' (first | (with_reducible assumption) | (with_reducible refine Bb.alloc ?_ _) | (with_reducible refine Bb.drew ?_) | (with_reducible refine Bb.drewN ?_ _) | (refine Bb.set3 (x := .int .i64 0) (y := .slice none 0 0) (z := .slice none 0 0) ?_) | (with_reducible refine Bb.far ?_ (by (try simp only [World.size_alloc, World.size_drew]); omega)) | (with_reducible refine Bb.set ?_ rfl) | (with_reducible refine Bb.grown ?_ (by assumption) (by assumption))))
        · show Bk _ _ _ _ _; (repeat (first | (with_reducible assumption) | (with_reducible refine Bk.drew ?_) | (with_reducible refine Bk.alloc ?_ _) | (refine Bk.far ?_ (by dsimp only; omega) _) | (with_reducible refine Bk.mono ?_ (by assumption))))
        · show Bk _ _ _ _ _; (repeat (first | (with_reducible assumption) | (with_reducible refine Bk.drew ?_) | (with_reducible refine Bk.alloc ?_ _) | (refine Bk.far ?_ (by dsimp only; omega) _) | (with_reducible refine Bk.mono ?_ (by assumption))))
        · show PhM _ _ _; (repeat (first | (with_reducible assumption) | (with_reducible refine PhM.drew ?_) | (with_reducible refine PhM.alloc ?_ _) | (refine PhM.far ?_ (by omega)) | (with_reducible refine PhM.mono ?_ (by assumption))))
        · (repeat' (first | (with_reducible exact Below.refl _ _) | (with_reducible assumption) | (with_reducible refine Below.alloc ?_ ?_ _) | (with_reducible refine Below.drew ?_) | (with_reducible refine bdN ?_ _) | (with_reducible refine Below.setCell ?_ ?_ _) | (with_reducible refine chn ?_ (by assumption) ?_) | omega | (simp; done) | (simp; omega)))
  case rest =>
    obtain ⟨p, r, q, gx, gz, rfl, rfl, rfl, Yt, Yp, Yq, GX, GZ, PH, lp0, lq0, lgx, lgz, d1, d2, d3, d4, hBc⟩ := hcut
    clear ct0 ct1 ct2 lt Xt Xtw1
    have hBs := hBc.size
    go_wp2_with (fail)
    go_loopg [7] 1000 (fun k s7 wr => ∃ (j i : Nat) (P1 P2 : Option Addr) (e1 e2 : Nat), i = j + 1 ∧ j + k = 1000 ∧ s7 = .int .i64 (i : Int) ∧ Hid (∀ u, u < j → ¬ isI n (pwT n xs zs u)) ∧ Hid (Bb wr (w.heap.size) 53 #[.int .i64 (n : Int), .slice (some ⟨g, 0, none⟩) n c1, .slice (some ⟨h, 0, none⟩) n c2]) ∧ Hid (Bb wr (p) 53 #[.int .i64 (n : Int), .slice (some ⟨gx, 0, none⟩) n n, .slice (some ⟨gz, 0, none⟩) n n]) ∧ Hid (Bb wr (q) 53 #[.int .i64 (n : Int), .slice P1 n e1, .slice P2 n e2]) ∧ Hid (Rd pauliE wr P1 (pwT n xs zs j).1) ∧ Hid (Rd pauliE wr P2 (pwT n xs zs j).2) ∧ Hid (Bk pauliE wr gx 43 (tab n genX)) ∧ Hid (Bk pauliE wr gz 43 (tab n genZ)) ∧ Hid (PhM 63 wr r) ∧ Hid (∀ a, P1 = some a → a.block ≠ q) ∧ Hid (∀ a, P2 = some a → a.block ≠ q) ∧ Below w.heap.size w wr)
    case atStart => exact ⟨0, 1, some ⟨g, 0, none⟩, some ⟨h, 0, none⟩, c1, c2, rfl, by omega, rfl, fun u hu => absurd hu (Nat.not_lt_zero u), Yt, Yp, Yq, HA.out.mono hBc, HB.out.mono hBc, GX, GZ, PH, (fun a ha => by cases ha; show g ≠ q; omega), (fun a ha => by cases ha; show h ≠ q; omega), hBc⟩
    case round =>
      obtain ⟨j, i, P1, P2, e1, e2, hij, hj, rfl, HN, Xt, Xp, Xq, XR1, XR2, XGX, XGZ, XPH, XF1, XF2, hB⟩ := hrel
      clear Yt Yp Yq GX GZ PH
      obtain ⟨ok1, ok2⟩ := pwT_ok q1 q5 OX.out OZ.out j
      have OK1 := lay ok1
      have OK2 := lay ok2
      clear ok1 ok2
      have hBr := hB.size
      have ct0 := Xt.out.c 0 rfl
      have ct1 := Xt.out.c 1 rfl
      have ct2 := Xt.out.c 2 rfl
      have cp0 := Xp.out.c 0 rfl
      have cp1 := Xp.out.c 1 rfl
      have cp2 := Xp.out.c 2 rfl
      have cq0 := Xq.out.c 0 rfl
      have cq1 := Xq.out.c 1 rfl
      have cq2 := Xq.out.c 2 rfl
      have lt := Xt.out.lt
      have lp := Xp.out.lt
      have lq := Xq.out.lt
      cases gk with
      | zero =>
        obtain rfl : j = 1000 := by omega
        obtain ⟨e3, e4⟩ := (HR.out 1000 (Nat.le_refl _) HN.out).2 rfl
        subst e3 e4
        subst hij
        go_wp2_with (fail)
        refine bodyPost_ret (v := .tuple #[.int .i64 0, .bool false]) (by first | (simp [results, Try.results55, go_sem, *]; done) | (simp (disch := (first | omega | (simp; done) | (simp; omega))) [results, Try.results55, go_sem, *]; done) | (simp only [results, Try.results55]; go_simp; done)) rfl ⟨rfl, ?_⟩
        (repeat' (first | (with_reducible exact Below.refl _ _) | (with_reducible assumption) | (with_reducible refine Below.alloc ?_ ?_ _) | (with_reducible refine Below.drew ?_) | (with_reducible refine bdN ?_ _) | (with_reducible refine Below.setCell ?_ ?_ _) | (with_reducible refine chn ?_ (by assumption) ?_) | omega | (simp; done) | (simp; omega)))
      | succ m =>
        have hlt : j < 1000 := by omega
        have il : (i : Int) ≤ 1000 := by omega
        by_cases hI : isI n (pwT n xs zs j)
        · obtain ⟨e3, e4⟩ := (HR.out j (Nat.le_of_lt hlt) HN.out).1 hlt hI
          have e5 : r0 = (i : Int) := by rw [e3, hij]
          subst e5 e4
          have HI := lay hI
          clear hI e3
          go_wp2_with (fail)
          refine (eqT_i (t := true) (xs := (pwT n xs zs j).1) (zs := (pwT n xs zs j).2) (us := tab n genX) (vs := tab n genZ) q5 ⟨fun _ => HI.out, fun _ => rfl⟩ ?_ ?_ ?_ ?_ OK1.out.1 OK2.out.1 (tab_len _ _) (tab_len _ _)).mono ?_
          · exact XR1.out
          · exact XR2.out
          · exact XGX.out.rd
          · exact XGZ.out.rd
          rintro ee w2 ⟨rfl, hb2⟩
          go_wp2_with (fail)
          refine bodyPost_ret (v := .tuple #[.int .i64 (i : Int), .bool true]) (by first | (simp [results, Try.results55, go_sem, *]; done) | (simp (disch := (first | omega | (simp; done) | (simp; omega))) [results, Try.results55, go_sem, *]; done) | (simp only [results, Try.results55]; go_simp; done)) rfl ⟨rfl, ?_⟩
          (repeat' (first | (with_reducible exact Below.refl _ _) | (with_reducible assumption) | (with_reducible refine Below.alloc ?_ ?_ _) | (with_reducible refine Below.drew ?_) | (with_reducible refine bdN ?_ _) | (with_reducible refine Below.setCell ?_ ?_ _) | (with_reducible refine chn ?_ (by assumption) ?_) | omega | (simp; done) | (simp; omega)))
        · have HI := lay hI
          clear hI
          go_wp2_with (fail)
          refine (eqT_i (t := false) (xs := (pwT n xs zs j).1) (zs := (pwT n xs zs j).2) (us := tab n genX) (vs := tab n genZ) q5 ⟨fun h => (by cases h), fun h => absurd h HI.out⟩ ?_ ?_ ?_ ?_ OK1.out.1 OK2.out.1 (tab_len _ _) (tab_len _ _)).mono ?_
          · exact XR1.out
          · exact XR2.out
          · exact XGX.out.rd
          · exact XGZ.out.rd
          rintro ee w2 ⟨rfl, hb2⟩
          have hz2 := hb2.size
          have hB2 : Below w.heap.size w w2 := chn hB hb2 hB.size
          have lqq := lq
          clear ct0 ct1 ct2 cp0 cp1 cp2 cq0 cq1 cq2 lt lp lq 
          have Zt : Hid (Bb w2 (w.heap.size) 53 #[.int .i64 (n : Int), .slice (some ⟨g, 0, none⟩) n c1, .slice (some ⟨h, 0, none⟩) n c2]) := Xt.out.mono hb2
          have Zp : Hid (Bb w2 (p) 53 #[.int .i64 (n : Int), .slice (some ⟨gx, 0, none⟩) n n, .slice (some ⟨gz, 0, none⟩) n n]) := Xp.out.mono hb2
          have Zq : Hid (Bb w2 (q) 53 #[.int .i64 (n : Int), .slice P1 n e1, .slice P2 n e2]) := Xq.out.mono hb2
          have ZR1 := lay (XR1.out.mono hb2)
          have ZR2 := lay (XR2.out.mono hb2)
          have ZGX := lay (XGX.out.mono hb2)
          have ZGZ := lay (XGZ.out.mono hb2)
          have ZPH := lay (XPH.out.mono hb2)
          have ct0 := Zt.out.c 0 rfl
          have ct1 := Zt.out.c 1 rfl
          have ct2 := Zt.out.c 2 rfl
          have cp0 := Zp.out.c 0 rfl
          have cp1 := Zp.out.c 1 rfl
          have cp2 := Zp.out.c 2 rfl
          have cq0 := Zq.out.c 0 rfl
          have cq1 := Zq.out.c 1 rfl
          have cq2 := Zq.out.c 2 rfl
          have lt := Zt.out.lt
          have lp := Zp.out.lt
          have lq := Zq.out.lt
          clear hb2
          go_wp2_with (fail)
          refine (icomp (xs := (pwT n xs zs j).1) (zs := (pwT n xs zs j).2) (us := xs) (vs := zs) q1 q5 ZPH.out ?_ ?_ ?_ ?_ OK1.out OK2.out OX.out OZ.out).mono ?_
          · exact ZR1.out
          · exact ZR2.out
          · exact HA.out.mono hB2
          · exact HB.out.mono hB2
          rintro ee w3 ⟨gx2, gz2, rfl, hK1, hK2, l1, l2, hne, hb3⟩
          have hz3 := hb3.size
          have hB3 : Below w.heap.size w w3 := chn hB2 hb3 hB2.size
          have lk1 := hK1.lt
          have lk2 := hK2.lt
          have K1 := lay hK1
          have K2 := lay hK2
          clear ct0 ct1 ct2 cp0 cp1 cp2 cq0 cq1 cq2 lt lp lq 
          have Vt : Hid (Bb w3 (w.heap.size) 53 #[.int .i64 (n : Int), .slice (some ⟨g, 0, none⟩) n c1, .slice (some ⟨h, 0, none⟩) n c2]) := Zt.out.mono hb3
          have Vp : Hid (Bb w3 (p) 53 #[.int .i64 (n : Int), .slice (some ⟨gx, 0, none⟩) n n, .slice (some ⟨gz, 0, none⟩) n n]) := Zp.out.mono hb3
          have Vq : Hid (Bb w3 (q) 53 #[.int .i64 (n : Int), .slice P1 n e1, .slice P2 n e2]) := Zq.out.mono hb3
          have VR1 := lay (ZR1.out.mono hb3)
          have VR2 := lay (ZR2.out.mono hb3)
          have VGX := lay (ZGX.out.mono hb3)
          have VGZ := lay (ZGZ.out.mono hb3)
          have VPH := lay (ZPH.out.mono hb3)
          have ct0 := Vt.out.c 0 rfl
          have ct1 := Vt.out.c 1 rfl
          have ct2 := Vt.out.c 2 rfl
          have cp0 := Vp.out.c 0 rfl
          have cp1 := Vp.out.c 1 rfl
          have cp2 := Vp.out.c 2 rfl
          have cq0 := Vq.out.c 0 rfl
          have cq1 := Vq.out.c 1 rfl
          have cq2 := Vq.out.c 2 rfl
          have lt := Vt.out.lt
          have lp := Vp.out.lt
          have lq := Vq.out.lt
          have fq := Vq.out.f
          clear hb3 hK1 hK2 ZR1 ZR2
          go_wp2_with (fail)
          go_roundg m
          case measure => omega
          case rel =>
            have R1 := Vt.out
            have R2 := Vp.out
            have R3 := Vq.out
            have R4 := VGX.out
            have R5 := VGZ.out
            have R6 := VPH.out
            refine ⟨j + 1, i + 1, some ⟨gx2, 0, none⟩, some ⟨gz2, 0, none⟩, n, n, by omega, by omega, by go_num, isI_no HN.out HI.out, ?_, ?_, ?_, ?_, ?_, ?_, ?_, ?_, (fun a ha => by cases ha; show gx2 ≠ q; omega), (fun a ha => by cases ha; show gz2 ≠ q; omega), ?_⟩
            · show Bb _ _ _ _; exact ((R1.far (by omega)).far (by omega)).far (by omega)
            · show Bb _ _ _ _; exact ((R2.far (by omega)).far (by omega)).far (by omega)
            · show Bb _ _ _ _; exact ((R3.set rfl).set rfl).set rfl
            · show Rd _ _ _ _; exact (((K1.out.far (by show gx2 ≠ q; omega) _).far (by show gx2 ≠ q; omega) _).far (by show gx2 ≠ q; omega) _).rd
            · show Rd _ _ _ _; exact (((K2.out.far (by show gz2 ≠ q; omega) _).far (by show gz2 ≠ q; omega) _).far (by show gz2 ≠ q; omega) _).rd
            · show Bk _ _ _ _ _; exact ((R4.far (by show gx ≠ q; omega) _).far (by show gx ≠ q; omega) _).far (by show gx ≠ q; omega) _
            · show Bk _ _ _ _ _; exact ((R5.far (by show gz ≠ q; omega) _).far (by show gz ≠ q; omega) _).far (by show gz ≠ q; omega) _
            · show PhM _ _ _; exact ((R6.far (by omega)).far (by omega)).far (by omega)
            · (repeat' (first | (with_reducible exact Below.refl _ _) | (with_reducible assumption) | (with_reducible refine Below.alloc ?_ ?_ _) | (with_reducible refine Below.drew ?_) | (with_reducible refine bdN ?_ _) | (with_reducible refine Below.setCell ?_ ?_ _) | (with_reducible refine chn ?_ (by assumption) ?_) | omega | (simp; done) | (simp; omega)))
end Go.Proofs.Ytjedpeoafpljhaa.C4
