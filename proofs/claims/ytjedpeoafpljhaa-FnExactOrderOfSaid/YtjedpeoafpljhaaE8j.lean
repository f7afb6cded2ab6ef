/- OrderOf: the model. -/
import Derived.Test.YtjedpeoafpljhaaZeq
import Derived.Test.YtjedpeoafpljhaaE8d
import Derived.Test.YtjedpeoafpljhaaPcs
import Derived.Test.YtjedpeoafpljhaaPgt
namespace Go.Proofs.Ytjedpeoafpljhaa.C4
open Go.RowKit
set_option linter.unusedVariables false
set_option linter.unusedSimpArgs false
attribute [local irreducible] World.setCell

set_option maxRecDepth 100000 in
set_option maxHeartbeats 8000000 in
theorem ors_t {n g h c1 c2 : Nat} {xs zs : List PauliV} {r0 : Int} {r1 : Bool} {w : World} (q1 : 1 ≤ n) (q5 : n ≤ 5) (ht : TOk (n : Int) n n xs zs) (hr : ordA n xs zs r0 r1) (hA : Rd pauliE w (some ⟨g, 0, none⟩) xs) (hB : Rd pauliE w (some ⟨h, 0, none⟩) zs) (hn : xs.length = n) (hm : zs.length = n) :
    Calls Try.prog 54 #[tableauV (n : Int) (some ⟨g, 0, none⟩) n c1 (some ⟨h, 0, none⟩) n c2] w fun ee w' => ee = .returned (.tuple #[.int .i64 r0, .bool r1]) ∧ Below w.heap.size w w' := by
  have HTT := lay ht
  obtain ⟨oX, oZ⟩ := TOk_L ((TOk_m q1 q5 hn hm).1 ht) hn hm
  have OX := lay oX
  have OZ := lay oZ
  have HA := lay hA
  have HB := lay hB
  have HR := lay hr
  have hml : n ≤ maxLen := by unfold maxLen; omega
  have hgw : g < w.heap.size := by
    obtain ⟨x, hx⟩ : ∃ x, xs[0]? = some x := ⟨_, List.getElem?_eq_getElem (by omega)⟩
    obtain ⟨g', o', e, hl, -⟩ := hA.atPauli hx
    cases e; exact hl
  have hhw : h < w.heap.size := by
    obtain ⟨x, hx⟩ : ∃ x, zs[0]? = some x := ⟨_, List.getElem?_eq_getElem (by omega)⟩
    obtain ⟨g', o', e, hl, -⟩ := hB.atPauli hx
    cases e; exact hl
  clear ht oX oZ hA hB hr
  go_enter Try.func54, Try.ntmps54
  go_wp2_with (fail)
  refine (gvs (t := true) (xs := xs) (zs := zs) ⟨fun _ => HTT.out, fun _ => rfl⟩ ?_ ?_ hn hm hml hml).mono ?_
  · exact HA.out.mono (by (repeat' (first | (with_reducible exact Below.refl _ _) | (with_reducible assumption) | (with_reducible refine Below.alloc ?_ ?_ _) | (with_reducible refine Below.drew ?_) | (with_reducible refine bdN ?_ _) | (with_reducible refine Below.setCell ?_ ?_ _) | (with_reducible refine chn ?_ (by assumption) ?_) | omega | (simp; done) | (simp; omega))))
  · exact HB.out.mono (by (repeat' (first | (with_reducible exact Below.refl _ _) | (with_reducible assumption) | (with_reducible refine Below.alloc ?_ ?_ _) | (with_reducible refine Below.drew ?_) | (with_reducible refine bdN ?_ _) | (with_reducible refine Below.setCell ?_ ?_ _) | (with_reducible refine chn ?_ (by assumption) ?_) | omega | (simp; done) | (simp; omega))))
  rintro ee w1 ⟨rfl, hb1⟩
  have hz1 := hb1.size
  (try simp only [World.size_alloc] at hz1)
  have Xt : Hid (Bb w1 (w.heap.size) 53 #[.int .i64 (n : Int), .slice (some ⟨g, 0, none⟩) n c1, .slice (some ⟨h, 0, none⟩) n c2]) := by show Bb _ _ _ _; (repeat' (first | (with_reducible assumption) | (refine Bb.new (by first | (with_reducible rfl) | (simp; done))) | (with_reducible refine Bb.alloc ?_ _) | (with_reducible refine Bb.drew ?_) | (with_reducible refine Bb.drewN ?_ _) | (with_reducible refine Bb.mono ?_ (by assumption)) | (with_reducible refine Bb.far ?_ (by (try simp only [World.size_alloc, World.size_drew]); omega)) | (with_reducible refine Bb.set ?_ rfl) | (with_reducible refine Bb.grown ?_ (by assumption) (by assumption))))
  have hB1 : Below w.heap.size w w1 := by (repeat' (first | (with_reducible exact Below.refl _ _) | (with_reducible assumption) | (with_reducible refine Below.alloc ?_ ?_ _) | (with_reducible refine Below.drew ?_) | (with_reducible refine bdN ?_ _) | (with_reducible refine Below.setCell ?_ ?_ _) | (with_reducible refine chn ?_ (by assumption) ?_) | omega | (simp; done) | (simp; omega)))
  clear hb1
  have ct0 := Xt.out.c 0 rfl
  have ct1 := Xt.out.c 1 rfl
  have ct2 := Xt.out.c 2 rfl
  have lt := Xt.out.lt
  go_wp2_with (fail)
  go_loopg [5] 1000 (fun k s7 wr => ∃ (j i : Nat) (P1 P2 : Option Addr) (e1 e2 : Nat), i = j + 1 ∧ j + k = 1000 ∧ s7 = .int .i64 (i : Int) ∧ Hid (∀ u, u < j → ¬ isI n (pwT n xs zs u)) ∧ Hid (Bb wr (w.heap.size) 53 #[.int .i64 (n : Int), .slice (some ⟨g, 0, none⟩) n c1, .slice (some ⟨h, 0, none⟩) n c2]) ∧ Hid (Bb wr (w1.heap.size) 53 #[.int .i64 (n : Int), .slice P1 n e1, .slice P2 n e2]) ∧ Hid (Rd pauliE wr P1 (pwT n xs zs j).1) ∧ Hid (Rd pauliE wr P2 (pwT n xs zs j).2) ∧ Hid (∀ a, P1 = some a → a.block ≠ w1.heap.size) ∧ Hid (∀ a, P2 = some a → a.block ≠ w1.heap.size) ∧ Below w.heap.size w wr)
  case atStart =>
    refine ⟨0, 1, some ⟨g, 0, none⟩, some ⟨h, 0, none⟩, c1, c2, rfl, by omega, rfl, fun u hu => absurd hu (Nat.not_lt_zero u), ?_, ?_, ?_, ?_, (fun a ha => by cases ha; show g ≠ w1.heap.size; omega), (fun a ha => by cases ha; show h ≠ w1.heap.size; omega), ?_⟩
    · show Bb _ _ _ _; exact Xt.out.alloc _
    · show Bb _ _ _ _; exact Bb.new rfl
    · show Rd _ _ _ _; exact HA.out.mono (by (repeat' (first | (with_reducible exact Below.refl _ _) | (with_reducible assumption) | (with_reducible refine Below.alloc ?_ ?_ _) | (with_reducible refine Below.drew ?_) | (with_reducible refine bdN ?_ _) | (with_reducible refine Below.setCell ?_ ?_ _) | (with_reducible refine chn ?_ (by assumption) ?_) | omega | (simp; done) | (simp; omega))))
    · show Rd _ _ _ _; exact HB.out.mono (by (repeat' (first | (with_reducible exact Below.refl _ _) | (with_reducible assumption) | (with_reducible refine Below.alloc ?_ ?_ _) | (with_reducible refine Below.drew ?_) | (with_reducible refine bdN ?_ _) | (with_reducible refine Below.setCell ?_ ?_ _) | (with_reducible refine chn ?_ (by assumption) ?_) | omega | (simp; done) | (simp; omega))))
    · (repeat' (first | (with_reducible exact Below.refl _ _) | (with_reducible assumption) | (with_reducible refine Below.alloc ?_ ?_ _) | (with_reducible refine Below.drew ?_) | (with_reducible refine bdN ?_ _) | (with_reducible refine Below.setCell ?_ ?_ _) | (with_reducible refine chn ?_ (by assumption) ?_) | omega | (simp; done) | (simp; omega)))
  case round =>
    obtain ⟨j, i, P1, P2, e1, e2, hij, hj, rfl, HN, Xr, Xq, XR1, XR2, XF1, XF2, hB⟩ := hrel
    clear ct0 ct1 ct2 lt Xt
    have Xt := Xr
    clear Xr
    obtain ⟨ok1, ok2⟩ := pwT_ok q1 q5 OX.out OZ.out j
    have OK1 := lay ok1
    have OK2 := lay ok2
    clear ok1 ok2
    have hBr := hB.size
    have ct0 := Xt.out.c 0 rfl
    have ct1 := Xt.out.c 1 rfl
    have ct2 := Xt.out.c 2 rfl
    have cq0 := Xq.out.c 0 rfl
    have cq1 := Xq.out.c 1 rfl
    have cq2 := Xq.out.c 2 rfl
    have lt := Xt.out.lt
    have lq := Xq.out.lt
    cases gk with
    | zero =>
      obtain rfl : j = 1000 := by omega
      obtain ⟨e3, e4⟩ := (HR.out 1000 (Nat.le_refl _) HN.out).2 rfl
      subst e3 e4
      subst hij
      go_wp2_with (fail)
      refine bodyPost_ret (v := .tuple #[.int .i64 0, .bool false]) (by first | (simp [results, Try.results54, go_sem, *]; done) | (simp (disch := (first | omega | (simp; done) | (simp; omega))) [results, Try.results54, go_sem, *]; done) | (simp only [results, Try.results54]; go_simp; done)) rfl ⟨rfl, ?_⟩
      (repeat' (first | (with_reducible exact Below.refl _ _) | (with_reducible assumption) | (with_reducible refine Below.alloc ?_ ?_ _) | (with_reducible refine Below.drew ?_) | (with_reducible refine bdN ?_ _) | (with_reducible refine Below.setCell ?_ ?_ _) | (with_reducible refine chn ?_ (by assumption) ?_) | omega | (simp; done) | (simp; omega)))
    | succ m =>
      have hlt : j < 1000 := by omega
      have il : (i : Int) ≤ 1000 := by omega
      by_cases hI : isI n (pwT n xs zs j)
      · obtain ⟨e3, e4⟩ := (HR.out j (Nat.le_of_lt hlt) HN.out).1 hlt hI
        have e5 : r0 = (i : Int) := by rw [e3, hij]
        subst e5 e4
        have HI := lay hI
        clear hI e3
        go_upto_region 7 with (fail)
        have yct0 : wr.drew.cell? ⟨w.heap.size, 0, none⟩ = some (.int .i64 (n : Int)) := ct0
        have yct1 : wr.drew.cell? ⟨w.heap.size, 1, none⟩ = some (.slice (some ⟨g, 0, none⟩) n c1) := ct1
        have yct2 : wr.drew.cell? ⟨w.heap.size, 2, none⟩ = some (.slice (some ⟨h, 0, none⟩) n c2) := ct2
        have ycq0 : wr.drew.cell? ⟨w1.heap.size, 0, none⟩ = some (.int .i64 (n : Int)) := cq0
        have ycq1 : wr.drew.cell? ⟨w1.heap.size, 1, none⟩ = some (.slice P1 n e1) := cq1
        have ycq2 : wr.drew.cell? ⟨w1.heap.size, 2, none⟩ = some (.slice P2 n e2) := cq2
        refine wp_region_x (fun w' => w'.cell? ⟨w.heap.size, 0, none⟩ = some (.int .i64 (n : Int)) ∧ w'.cell? ⟨w.heap.size, 1, none⟩ = some (.slice (some ⟨g, 0, none⟩) n c1) ∧ w'.cell? ⟨w.heap.size, 2, none⟩ = some (.slice (some ⟨h, 0, none⟩) n c2) ∧ w'.cell? ⟨w1.heap.size, 0, none⟩ = some (.int .i64 (n : Int)) ∧ w'.cell? ⟨w1.heap.size, 1, none⟩ = some (.slice P1 n e1) ∧ w'.cell? ⟨w1.heap.size, 2, none⟩ = some (.slice P2 n e2)) 1000 (by kernel_rfl) ⟨yct0, yct1, yct2, ycq0, ycq1, ycq2⟩ (fun hS0 => ?_)
        refine wpAnyX_take (i := 0) (oi := _) (v := ?_) rfl (by kernel_rfl) (by kernel_rfl) (by kernel_rfl) (by kernel_rfl) (fun _ _ _ h => h) (Or.inl ⟨by rfl, ?_⟩) hS0 ?_
        rotate_left 1
        · (intro w hSw; (try dsimp only at hSw); go_simp; (try with_reducible rfl))
        try simp only [Act.put, List.setIfInBounds_toArray, List.set_cons_zero, List.set_cons_succ]
        refine wpAnyX_take (i := 1) (oi := _) (v := ?_) rfl (by kernel_rfl) (by kernel_rfl) (by kernel_rfl) (by kernel_rfl) (fun _ _ _ h => h) (Or.inl ⟨by rfl, ?_⟩) hS0 ?_
        rotate_left 1
        · (intro w hSw; (try dsimp only at hSw); go_simp; (try with_reducible rfl))
        try simp only [Act.put, List.setIfInBounds_toArray, List.set_cons_zero, List.set_cons_succ]
        refine wpAnyX_take (i := 2) (oi := _) (v := ?_) rfl (by kernel_rfl) (by kernel_rfl) (by kernel_rfl) (by kernel_rfl) (fun _ _ _ h => h) (Or.inl ⟨by rfl, ?_⟩) hS0 ?_
        rotate_left 1
        · (intro w hSw; (try dsimp only at hSw); go_simp; (try with_reducible rfl))
        try simp only [Act.put, List.setIfInBounds_toArray, List.set_cons_zero, List.set_cons_succ]
        refine wpAnyX_one (i := 3) (o := _) rfl (by kernel_rfl) (fun K hK => ?_)
        go_simp
        refine (l7id q1 q5 _).mono ?_
        rintro ee w8 ⟨vx, vz, rfl, hO, hb8⟩
        obtain ⟨gx, cx, gz, cz, rfl, rfl, hK1, hK2, hg1, hg2, hne⟩ := Ow2.split q1 hO
        have k8 : Below wr.heap.size wr w8 := ⟨hb8.os, hb8.tape, hb8.output, hb8.size, hb8.block⟩
        have hB8 : Below w.heap.size w w8 := chn hB k8 hB.size
        have K1 := lay hK1
        have K2 := lay hK2
        clear hO hK1 hK2
        refine hK.out _ _ (fun _ => ?_) (fun hS1 => ?_)
        · exact ⟨kcl hb8 (hS0.1), kcl hb8 (hS0.2.1), kcl hb8 (hS0.2.2.1), kcl hb8 (hS0.2.2.2.1), kcl hb8 (hS0.2.2.2.2.1), kcl hb8 (hS0.2.2.2.2.2)⟩
        clear hK K
        have hS1 := hS1 (by decide)
        try simp only [Act.put, List.setIfInBounds_toArray, List.set_cons_zero, List.set_cons_succ]
        refine wpAnyX_one (i := 4) (o := _) rfl (by kernel_rfl) (fun K hK => ?_)
        go_simp
        refine (l8same (t := true) (xs := (pwT n xs zs j).1) (zs := (pwT n xs zs j).2) (us := tab n genX) (vs := tab n genZ) q5 ⟨fun _ => HI.out, fun _ => rfl⟩ ?_ ?_ ?_ ?_ OK1.out.1 OK2.out.1 (tab_len _ _) (tab_len _ _)).mono ?_
        · exact XR1.out.mono k8
        · exact XR2.out.mono k8
        · exact K1.out.rd
        · exact K2.out.rd
        rintro ee w9 ⟨rfl, hb9⟩
        refine hK.out _ _ (fun _ => ?_) (fun hS2 => ?_)
        · exact ⟨kcl hb9 (hS1.1), kcl hb9 (hS1.2.1), kcl hb9 (hS1.2.2.1), kcl hb9 (hS1.2.2.2.1), kcl hb9 (hS1.2.2.2.2.1), kcl hb9 (hS1.2.2.2.2.2)⟩
        clear hK K
        have hS2 := hS2 (by decide)
        try simp only [Act.put, List.setIfInBounds_toArray, List.set_cons_zero, List.set_cons_succ]
        refine wpAnyX_done (by kernel_rfl) ?_ _
        have k9 : Below wr.heap.size wr w9 := chn k8 hb9 k8.size
        have hB9 : Below w.heap.size w w9 := chn hB k9 hB.size
        go_wp2_with (fail)
        refine bodyPost_ret (v := .tuple #[.int .i64 (i : Int), .bool true]) (by first | (simp [results, Try.results54, go_sem, *]; done) | (simp (disch := (first | omega | (simp; done) | (simp; omega))) [results, Try.results54, go_sem, *]; done) | (simp only [results, Try.results54]; go_simp; done)) rfl ⟨rfl, ?_⟩
        (repeat' (first | (with_reducible exact Below.refl _ _) | (with_reducible assumption) | (with_reducible refine Below.alloc ?_ ?_ _) | (with_reducible refine Below.drew ?_) | (with_reducible refine bdN ?_ _) | (with_reducible refine Below.setCell ?_ ?_ _) | (with_reducible refine chn ?_ (by assumption) ?_) | omega | (simp; done) | (simp; omega)))
      · have HI := lay hI
        clear hI
        go_upto_region 7 with (fail)
        have yct0 : wr.drew.cell? ⟨w.heap.size, 0, none⟩ = some (.int .i64 (n : Int)) := ct0
        have yct1 : wr.drew.cell? ⟨w.heap.size, 1, none⟩ = some (.slice (some ⟨g, 0, none⟩) n c1) := ct1
        have yct2 : wr.drew.cell? ⟨w.heap.size, 2, none⟩ = some (.slice (some ⟨h, 0, none⟩) n c2) := ct2
        have ycq0 : wr.drew.cell? ⟨w1.heap.size, 0, none⟩ = some (.int .i64 (n : Int)) := cq0
        have ycq1 : wr.drew.cell? ⟨w1.heap.size, 1, none⟩ = some (.slice P1 n e1) := cq1
        have ycq2 : wr.drew.cell? ⟨w1.heap.size, 2, none⟩ = some (.slice P2 n e2) := cq2
        refine wp_region_x (fun w' => w'.cell? ⟨w.heap.size, 0, none⟩ = some (.int .i64 (n : Int)) ∧ w'.cell? ⟨w.heap.size, 1, none⟩ = some (.slice (some ⟨g, 0, none⟩) n c1) ∧ w'.cell? ⟨w.heap.size, 2, none⟩ = some (.slice (some ⟨h, 0, none⟩) n c2) ∧ w'.cell? ⟨w1.heap.size, 0, none⟩ = some (.int .i64 (n : Int)) ∧ w'.cell? ⟨w1.heap.size, 1, none⟩ = some (.slice P1 n e1) ∧ w'.cell? ⟨w1.heap.size, 2, none⟩ = some (.slice P2 n e2)) 1000 (by kernel_rfl) ⟨yct0, yct1, yct2, ycq0, ycq1, ycq2⟩ (fun hS0 => ?_)
        refine wpAnyX_take (i := 0) (oi := _) (v := ?_) rfl (by kernel_rfl) (by kernel_rfl) (by kernel_rfl) (by kernel_rfl) (fun _ _ _ h => h) (Or.inl ⟨by rfl, ?_⟩) hS0 ?_
        rotate_left 1
        · (intro w hSw; (try dsimp only at hSw); go_simp; (try with_reducible rfl))
        try simp only [Act.put, List.setIfInBounds_toArray, List.set_cons_zero, List.set_cons_succ]
        refine wpAnyX_take (i := 1) (oi := _) (v := ?_) rfl (by kernel_rfl) (by kernel_rfl) (by kernel_rfl) (by kernel_rfl) (fun _ _ _ h => h) (Or.inl ⟨by rfl, ?_⟩) hS0 ?_
        rotate_left 1
        · (intro w hSw; (try dsimp only at hSw); go_simp; (try with_reducible rfl))
        try simp only [Act.put, List.setIfInBounds_toArray, List.set_cons_zero, List.set_cons_succ]
        refine wpAnyX_take (i := 2) (oi := _) (v := ?_) rfl (by kernel_rfl) (by kernel_rfl) (by kernel_rfl) (by kernel_rfl) (fun _ _ _ h => h) (Or.inl ⟨by rfl, ?_⟩) hS0 ?_
        rotate_left 1
        · (intro w hSw; (try dsimp only at hSw); go_simp; (try with_reducible rfl))
        try simp only [Act.put, List.setIfInBounds_toArray, List.set_cons_zero, List.set_cons_succ]
        refine wpAnyX_one (i := 3) (o := _) rfl (by kernel_rfl) (fun K hK => ?_)
        go_simp
        refine (l7id q1 q5 _).mono ?_
        rintro ee w8 ⟨vx, vz, rfl, hO, hb8⟩
        obtain ⟨gx, cx, gz, cz, rfl, rfl, hK1, hK2, hg1, hg2, hne⟩ := Ow2.split q1 hO
        have k8 : Below wr.heap.size wr w8 := ⟨hb8.os, hb8.tape, hb8.output, hb8.size, hb8.block⟩
        have hB8 : Below w.heap.size w w8 := chn hB k8 hB.size
        have K1 := lay hK1
        have K2 := lay hK2
        clear hO hK1 hK2
        refine hK.out _ _ (fun _ => ?_) (fun hS1 => ?_)
        · exact ⟨kcl hb8 (hS0.1), kcl hb8 (hS0.2.1), kcl hb8 (hS0.2.2.1), kcl hb8 (hS0.2.2.2.1), kcl hb8 (hS0.2.2.2.2.1), kcl hb8 (hS0.2.2.2.2.2)⟩
        clear hK K
        have hS1 := hS1 (by decide)
        try simp only [Act.put, List.setIfInBounds_toArray, List.set_cons_zero, List.set_cons_succ]
        refine wpAnyX_one (i := 4) (o := _) rfl (by kernel_rfl) (fun K hK => ?_)
        go_simp
        refine (l8same (t := false) (xs := (pwT n xs zs j).1) (zs := (pwT n xs zs j).2) (us := tab n genX) (vs := tab n genZ) q5 ⟨fun h => (by cases h), fun h => absurd h HI.out⟩ ?_ ?_ ?_ ?_ OK1.out.1 OK2.out.1 (tab_len _ _) (tab_len _ _)).mono ?_
        · exact XR1.out.mono k8
        · exact XR2.out.mono k8
        · exact K1.out.rd
        · exact K2.out.rd
        rintro ee w9 ⟨rfl, hb9⟩
        refine hK.out _ _ (fun _ => ?_) (fun hS2 => ?_)
        · exact ⟨kcl hb9 (hS1.1), kcl hb9 (hS1.2.1), kcl hb9 (hS1.2.2.1), kcl hb9 (hS1.2.2.2.1), kcl hb9 (hS1.2.2.2.2.1), kcl hb9 (hS1.2.2.2.2.2)⟩
        clear hK K
        have hS2 := hS2 (by decide)
        try simp only [Act.put, List.setIfInBounds_toArray, List.set_cons_zero, List.set_cons_succ]
        refine wpAnyX_done (by kernel_rfl) ?_ _
        have k9 : Below wr.heap.size wr w9 := chn k8 hb9 k8.size
        have hB9 : Below w.heap.size w w9 := chn hB k9 hB.size
        clear ct0 ct1 ct2 cq0 cq1 cq2 lt lq 
        have Zt : Hid (Bb w9 (w.heap.size) 53 #[.int .i64 (n : Int), .slice (some ⟨g, 0, none⟩) n c1, .slice (some ⟨h, 0, none⟩) n c2]) := Xt.out.mono k9
        have Zq : Hid (Bb w9 (w1.heap.size) 53 #[.int .i64 (n : Int), .slice P1 n e1, .slice P2 n e2]) := Xq.out.mono k9
        have ZR1 := lay (XR1.out.mono k9)
        have ZR2 := lay (XR2.out.mono k9)
        have ct0 := Zt.out.c 0 rfl
        have ct1 := Zt.out.c 1 rfl
        have ct2 := Zt.out.c 2 rfl
        have cq0 := Zq.out.c 0 rfl
        have cq1 := Zq.out.c 1 rfl
        have cq2 := Zq.out.c 2 rfl
        have lt := Zt.out.lt
        have lq := Zq.out.lt
        have lq9 := lq
        have hz9 := hB9.size
        clear k8 k9 hb8 hb9 hB8 K1 K2 hg1 hg2 hne hS0 hS1 hS2
        go_wp2_with (fail)
        refine (scomp (xs := (pwT n xs zs j).1) (zs := (pwT n xs zs j).2) (us := xs) (vs := zs) q1 q5 ?_ ?_ ?_ ?_ OK1.out OK2.out OX.out OZ.out).mono ?_
        · exact ZR1.out
        · exact ZR2.out
        · exact HA.out.mono hB9
        · exact HB.out.mono hB9
        rintro ee w3 ⟨vx3, vz3, rfl, hO, hb3⟩
        obtain ⟨gx2, cx2, gz2, cz2, rfl, rfl, hK1, hK2, l1, l2, hne⟩ := Ow2.split q1 hO
        have hz3 := hb3.size
        have hB3 : Below w.heap.size w w3 := chn hB9 hb3 hB9.size
        have K1 := lay hK1
        have K2 := lay hK2
        clear ct0 ct1 ct2 cq0 cq1 cq2 lt lq 
        have Vt : Hid (Bb w3 (w.heap.size) 53 #[.int .i64 (n : Int), .slice (some ⟨g, 0, none⟩) n c1, .slice (some ⟨h, 0, none⟩) n c2]) := Zt.out.mono hb3
        have Vq : Hid (Bb w3 (w1.heap.size) 53 #[.int .i64 (n : Int), .slice P1 n e1, .slice P2 n e2]) := Zq.out.mono hb3
        have VR1 := lay (ZR1.out.mono hb3)
        have VR2 := lay (ZR2.out.mono hb3)
        have ct0 := Vt.out.c 0 rfl
        have ct1 := Vt.out.c 1 rfl
        have ct2 := Vt.out.c 2 rfl
        have cq0 := Vq.out.c 0 rfl
        have cq1 := Vq.out.c 1 rfl
        have cq2 := Vq.out.c 2 rfl
        have lt := Vt.out.lt
        have lq := Vq.out.lt
        have fq := Vq.out.f
        clear hb3 hK1 hK2 hO ZR1 ZR2
        go_wp2_with (fail)
        go_roundg m
        case measure => omega
        case rel =>
          have R1 := Vt.out
          have R3 := Vq.out
          refine ⟨j + 1, i + 1, some ⟨gx2, 0, none⟩, some ⟨gz2, 0, none⟩, cx2, cz2, by omega, by omega, by go_num, isI_no HN.out HI.out, ?_, ?_, ?_, ?_, (fun a ha => by cases ha; show gx2 ≠ w1.heap.size; omega), (fun a ha => by cases ha; show gz2 ≠ w1.heap.size; omega), ?_⟩
          · show Bb _ _ _ _; exact ((R1.far (by omega)).far (by omega)).far (by omega)
          · show Bb _ _ _ _; exact ((R3.set rfl).set rfl).set rfl
          · show Rd _ _ _ _; exact (((K1.out.far (by show gx2 ≠ w1.heap.size; omega) _).far (by show gx2 ≠ w1.heap.size; omega) _).far (by show gx2 ≠ w1.heap.size; omega) _).rd
          · show Rd _ _ _ _; exact (((K2.out.far (by show gz2 ≠ w1.heap.size; omega) _).far (by show gz2 ≠ w1.heap.size; omega) _).far (by show gz2 ≠ w1.heap.size; omega) _).rd
          · (repeat' (first | (with_reducible exact Below.refl _ _) | (with_reducible assumption) | (with_reducible refine Below.alloc ?_ ?_ _) | (with_reducible refine Below.drew ?_) | (with_reducible refine bdN ?_ _) | (with_reducible refine Below.setCell ?_ ?_ _) | (with_reducible refine chn ?_ (by assumption) ?_) | omega | (simp; done) | (simp; omega)))
end Go.Proofs.Ytjedpeoafpljhaa.C4
