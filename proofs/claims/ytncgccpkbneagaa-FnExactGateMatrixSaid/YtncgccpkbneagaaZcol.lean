/- Col, ColI, Bad3 -/
import Derived.Test.YtncgccpkbneagaaZbx
import Derived.Test.YtncgccpkbneagaaRgx
import Derived.Test.YtncgccpkbneagaaZhld
import Derived.Deep.RegionLaw
import Derived.IntWalk
import Derived.Test.YtncgccpkbneagaaMxA
namespace Go.Proofs.Ytncgccpkbneagaa
open Go.RowKit RM
set_option linter.unusedVariables false
set_option linter.unusedSimpArgs false
attribute [local irreducible] World.setCell

theorem append_ok {n : Nat} (h : n ≤ 1048576) : n + 1 ≤ maxLen ∧ (n + 1) * 40 ≤ 140737488355328 := by unfold maxLen; omega
/-- column k -/
def colF (c k : Nat) (xs : List D5) (i : Nat) : D5 := xs.getD (i * c + k) z5

set_option maxRecDepth 100000 in
set_option maxHeartbeats 4000000 in
theorem lcol {r : Nat} {c k n cp : Nat} {A : Option Addr} {xs : List D5} {w : World} (hA : Rd w A xs) (hn : xs.length = n) (hr : n = r * c) (hk : k < c) (hb : n ≤ 1024) (hr2 : r ≤ 32) (hc2 : c ≤ 32) :
    Calls Try.prog 107 #[mv (r : Int) (c : Int) A n cp, .int .i64 (k : Int)] w fun ee w' => ∃ (B : Option Addr) (cq : Nat), ee = .returned (mv (r : Int) 1 B r cq) ∧ Rd w' B (tab r (colF c k xs)) ∧ (∀ a, B = some a → w.heap.size ≤ a.block) ∧ Below w.heap.size w w' := by
  obtain ⟨i0, hi0, hz0, hz1, hz2⟩ := info_parts infoD
  have HA := hid hA
  have HN := hid hn
  have HR := hid hr
  have k0 : (k : Int) < (c : Int) := by omega
  have k1 : (c : Int) ≤ 32 := by omega
  have k2 : (r : Int) ≤ 32 := by omega
  clear hA hn hr
  obtain ⟨F, hF⟩ : ∃ F, F = colF c k xs := ⟨_, rfl⟩
  have HF := hid hF
  rw [← hF]
  clear hF
  go_enter Try.func107, Try.ntmps107
  go_wp2_with (fail)
  go_loopg [6] r (fun q s1 wr => ∃ (j : Nat) (v : Value), j + q = r ∧ s1 = .int .i64 (j : Int) ∧ Hid (Bx wr (w.heap.size) 26 #[.int .i64 (r : Int), .int .i64 (c : Int), .slice A n cp]) ∧ Hid (Bx wr (w.heap.size + 1) 26 #[.int .i64 0, .int .i64 0, .slice none 0 0]) ∧ Hid (Bx wr (w.heap.size + 1 + 1) 26 #[.int .i64 (r : Int), .int .i64 1, v]) ∧ Hid (Own5 wr (w.heap.size + 1 + 1 + 1) 37 v (tab j F)) ∧ w.heap.size + 1 + 1 + 1 ≤ wr.heap.size ∧ Below w.heap.size w wr)
  case atStart => exact ⟨0, .slice none 0 0, by omega, rfl, (by show Bx _ _ _ _; (repeat' (first | (with_reducible assumption) | (refine Bx.new (by first | (with_reducible rfl) | (simp; done))) | (with_reducible refine Bx.alloc ?_ _) | (with_reducible refine Bx.drew ?_) | (with_reducible refine Bx.drewN ?_ _) | (with_reducible refine Bx.mono ?_ (by assumption)) | (with_reducible refine Bx.badly ?_ (by assumption) (by omega)) | (with_reducible refine Bx.far ?_ (by (try simp only [World.size_alloc, World.size_drew]); omega)) | (with_reducible refine Bx.set ?_ rfl) | (with_reducible refine Bx.grown ?_ (by assumption) (by assumption))))), (by show Bx _ _ _ _; (repeat' (first | (with_reducible assumption) | (refine Bx.new (by first | (with_reducible rfl) | (simp; done))) | (with_reducible refine Bx.alloc ?_ _) | (with_reducible refine Bx.drew ?_) | (with_reducible refine Bx.drewN ?_ _) | (with_reducible refine Bx.mono ?_ (by assumption)) | (with_reducible refine Bx.badly ?_ (by assumption) (by omega)) | (with_reducible refine Bx.far ?_ (by (try simp only [World.size_alloc, World.size_drew]); omega)) | (with_reducible refine Bx.set ?_ rfl) | (with_reducible refine Bx.grown ?_ (by assumption) (by assumption))))), (by show Bx _ _ _ _; (repeat' (first | (with_reducible assumption) | (refine Bx.new (by first | (with_reducible rfl) | (simp; done))) | (with_reducible refine Bx.alloc ?_ _) | (with_reducible refine Bx.drew ?_) | (with_reducible refine Bx.drewN ?_ _) | (with_reducible refine Bx.mono ?_ (by assumption)) | (with_reducible refine Bx.badly ?_ (by assumption) (by omega)) | (with_reducible refine Bx.far ?_ (by (try simp only [World.size_alloc, World.size_drew]); omega)) | (with_reducible refine Bx.set ?_ rfl) | (with_reducible refine Bx.grown ?_ (by assumption) (by assumption))))), Own5.nil _ _ _, by simp, by (repeat' (first | (with_reducible exact Below.refl _ _) | (with_reducible assumption) | (with_reducible refine Below.alloc ?_ ?_ _) | (with_reducible refine Below.drew ?_) | (with_reducible refine below_drewN ?_ _) | (with_reducible refine Below.setCell ?_ ?_ _) | (with_reducible refine chain ?_ (by assumption) ?_) | omega | (simp; done) | (simp; omega)))⟩
  case round =>
    obtain ⟨j, v, hj, rfl, Xm, Xz, Xo, HO, hsz, hB⟩ := hrel
    have cm0 := Xm.out.c 0 rfl
    have cm1 := Xm.out.c 1 rfl
    have cm2 := Xm.out.c 2 rfl
    have lm := Xm.out.lt
    have cz0 := Xz.out.c 0 rfl
    have cz1 := Xz.out.c 1 rfl
    have cz2 := Xz.out.c 2 rfl
    have lz := Xz.out.lt
    have fz := Xz.out.f
    have co0 := Xo.out.c 0 rfl
    have co1 := Xo.out.c 1 rfl
    have co2 := Xo.out.c 2 rfl
    have lo := Xo.out.lt
    have fo := Xo.out.f
    cases gk with
    | zero =>
      obtain rfl : j = r := by omega
      have HO1 := HO.out
      obtain ⟨B, cq, rfl, hRd, hBa⟩ := HO1.form
      rw [tab_len] at HO1 co2
      have HBa := hid hBa
      clear hBa
      have HRd := hid hRd
      clear hRd
      go_wp2_with (fail)
      refine bodyPost_ret (v := mv (j : Int) 1 B j cq) (by first | (simp [results, Try.results107, go_sem, *]; done) | (simp (disch := (first | omega | (simp; done) | (simp; omega))) [results, Try.results107, go_sem, *]; done)) rfl ⟨B, cq, rfl, ?_, fun a ha => by have := (HBa.out a ha).1; omega, ?_⟩
      · exact ((HRd.out.far (fun a ha => by have := (HBa.out a ha).1; show _ ≠ w.heap.size + 1; omega) _).far (fun a ha => by have := (HBa.out a ha).1; show _ ≠ w.heap.size + 1; omega) _).far (fun a ha => by have := (HBa.out a ha).1; show _ ≠ w.heap.size + 1; omega) _
      · (repeat' (first | (with_reducible exact Below.refl _ _) | (with_reducible assumption) | (with_reducible refine Below.alloc ?_ ?_ _) | (with_reducible refine Below.setCell ?_ ?_ _) | omega | (simp; done)))
    | succ m =>
      have hlt : j < r := by omega
      have hvl := World.ownsRow.lt HO.out
      have nem : some (w.heap.size) ≠ v.ownBlock := fun e => by have := (hvl _ e.symm).1; omega
      have nez : some (w.heap.size + 1) ≠ v.ownBlock := fun e => by have := (hvl _ e.symm).1; omega
      have neo : some (w.heap.size + 1 + 1) ≠ v.ownBlock := fun e => by have := (hvl _ e.symm).1; omega
      have hq : j * c + k < n := by
        have h1 : (j + 1) * c ≤ r * c := Nat.mul_le_mul_right c hlt
        rw [Nat.add_mul, ← HR.out] at h1
        omega
      have hx := get_of (xs := xs) (q := j * c + k) (by rw [HN.out]; exact hq)
      obtain ⟨x, hxe⟩ : ∃ x, x = xs.getD (j * c + k) z5 := ⟨_, rfl⟩
      rw [← hxe] at hx
      have HX : Hid (F j = x) := by show F j = x; rw [HF.out, hxe]; rfl
      clear hxe
      obtain ⟨g, o, rfl, hC⟩ := HA.out _ x hx
      obtain ⟨q0, q1, q2, q3, q4⟩ := hC.at_ (hB.block g hC.lt)
      have hgw := hC.lt
      clear hC hx
      obtain ⟨t, ht⟩ : ∃ t, t = j * c := ⟨_, rfl⟩
      rw [← ht] at q0 q1 q2 q3 q4 hq
      have e1 : (j : Int) * (c : Int) = (t : Int) := by rw [ht]; simp
      clear ht
      obtain ⟨s, hs⟩ : ∃ s, s = t + k := ⟨_, rfl⟩
      rw [← hs] at q0 q1 q2 q3 q4 hq
      have e2 : IntKind.i64.wrap (t : Int) = (t : Int) := IntWalk.i64_in _ (by omega)
      have e3 : IntKind.i64.wrap ((t : Int) + (k : Int)) = (s : Int) := by rw [hs, Int.natCast_add]; exact IntWalk.i64_in _ (by omega)
      have e4 : (s : Int) < (n : Int) := by omega
      clear hs
      go_wp2_with (fail)
      have neg : some g ≠ v.ownBlock := fun e => by have := (hvl _ e.symm).1; omega
      have ycm2 : wr.drew.cell? ⟨w.heap.size, 2, none⟩ = some (.slice (some ⟨g, o, none⟩) n cp) := cm2
      have ycm1 : wr.drew.cell? ⟨w.heap.size, 1, none⟩ = some (.int .i64 (c : Int)) := cm1
      have yco2 : wr.drew.cell? ⟨w.heap.size + 1 + 1, 2, none⟩ = some (v) := co2
      have yq0 : wr.drew.cell? ⟨g, o + s * 5, none⟩ = some (.int .i64 x.a) := q0
      have yq1 : wr.drew.cell? ⟨g, o + s * 5 + 1, none⟩ = some (.int .i64 x.b) := q1
      have yq2 : wr.drew.cell? ⟨g, o + s * 5 + 2, none⟩ = some (.int .i64 x.c) := q2
      have yq3 : wr.drew.cell? ⟨g, o + s * 5 + 3, none⟩ = some (.int .i64 x.d) := q3
      have yq4 : wr.drew.cell? ⟨g, o + s * 5 + 4, none⟩ = some (.int .i64 x.e) := q4
      refine wp_region_x (fun w' => w'.cell? ⟨w.heap.size, 2, none⟩ = some (.slice (some ⟨g, o, none⟩) n cp) ∧ w'.cell? ⟨w.heap.size, 1, none⟩ = some (.int .i64 (c : Int)) ∧ w'.cell? ⟨w.heap.size + 1 + 1, 2, none⟩ = some (v) ∧ w'.cell? ⟨g, o + s * 5, none⟩ = some (.int .i64 x.a) ∧ w'.cell? ⟨g, o + s * 5 + 1, none⟩ = some (.int .i64 x.b) ∧ w'.cell? ⟨g, o + s * 5 + 2, none⟩ = some (.int .i64 x.c) ∧ w'.cell? ⟨g, o + s * 5 + 3, none⟩ = some (.int .i64 x.d) ∧ w'.cell? ⟨g, o + s * 5 + 4, none⟩ = some (.int .i64 x.e)) 15 (by kernel_rfl) ⟨ycm2, ycm1, yco2, yq0, yq1, yq2, yq3, yq4⟩ (fun hS0 => ?_)
      refine wpAnyX_take (i := 0) (oi := _) (v := ?_) rfl (by kernel_rfl) (by kernel_rfl) (by kernel_rfl) (by kernel_rfl) (fun _ _ _ h => h) (Or.inl ⟨by rfl, ?_⟩) hS0 ?_
      rotate_left 1
      · (intro w hSw; (try dsimp only at hSw); go_simp; (try with_reducible rfl))
      try simp only [Act.put, List.setIfInBounds_toArray, List.set_cons_zero, List.set_cons_succ]
      refine wpAnyX_take (i := 1) (oi := _) (v := ?_) rfl (by kernel_rfl) (by kernel_rfl) (by kernel_rfl) (by kernel_rfl) (fun _ _ _ h => h) (Or.inl ⟨by rfl, ?_⟩) hS0 ?_
      rotate_left 1
      · (intro w hSw; (try dsimp only at hSw); go_simp; (try with_reducible rfl))
      try simp only [Act.put, List.setIfInBounds_toArray, List.set_cons_zero, List.set_cons_succ]
      refine wpAnyX_take (i := 2) (oi := _) (v := ?_) rfl (by kernel_rfl) (by kernel_rfl) (by kernel_rfl) (by kernel_rfl) (fun _ _ _ h => h) (Or.inl ⟨by rfl, ?_⟩) hS0 ?_
      rotate_left 1
      · (intro w hSw; (try dsimp only at hSw); go_simp; (try with_reducible rfl))
      try simp only [Act.put, List.setIfInBounds_toArray, List.set_cons_zero, List.set_cons_succ]
      refine wpAnyX_take (i := 3) (oi := _) (v := ?_) rfl (by kernel_rfl) (by kernel_rfl) (by kernel_rfl) (by kernel_rfl) (fun _ _ _ h => h) (Or.inl ⟨by rfl, ?_⟩) hS0 ?_
      rotate_left 1
      · (intro w hSw; (try dsimp only at hSw); go_simp; (try with_reducible rfl))
      try simp only [Act.put, List.setIfInBounds_toArray, List.set_cons_zero, List.set_cons_succ]
      refine wpAnyX_take (i := 4) (oi := _) (v := ?_) rfl (by kernel_rfl) (by kernel_rfl) (by kernel_rfl) (by kernel_rfl) (fun _ _ _ h => h) (Or.inl ⟨by rfl, ?_⟩) hS0 ?_
      rotate_left 1
      · (intro w hSw; (try dsimp only at hSw); go_simp; (try with_reducible rfl))
      try simp only [Act.put, List.setIfInBounds_toArray, List.set_cons_zero, List.set_cons_succ]
      refine wpAnyX_take (i := 5) (oi := _) (v := ?_) rfl (by kernel_rfl) (by kernel_rfl) (by kernel_rfl) (by kernel_rfl) (fun _ _ _ h => h) (Or.inl ⟨by rfl, ?_⟩) hS0 ?_
      rotate_left 1
      · (intro w hSw; (try dsimp only at hSw); go_simp; (try with_reducible rfl))
      try simp only [Act.put, List.setIfInBounds_toArray, List.set_cons_zero, List.set_cons_succ]
      refine wpAnyX_take (i := 6) (oi := _) (v := ?_) rfl (by kernel_rfl) (by kernel_rfl) (by kernel_rfl) (by kernel_rfl) (fun _ _ _ h => h) (Or.inl ⟨by rfl, ?_⟩) hS0 ?_
      rotate_left 1
      · (intro w hSw; (try dsimp only at hSw); go_simp; (try with_reducible rfl))
      try simp only [Act.put, List.setIfInBounds_toArray, List.set_cons_zero, List.set_cons_succ]
      refine wpAnyX_take (i := 7) (oi := _) (v := ?_) rfl (by kernel_rfl) (by kernel_rfl) (by kernel_rfl) (by kernel_rfl) (fun _ _ _ h => h) (Or.inl ⟨by rfl, ?_⟩) hS0 ?_
      rotate_left 1
      · (intro w hSw; (try dsimp only at hSw); go_simp; (try with_reducible rfl))
      try simp only [Act.put, List.setIfInBounds_toArray, List.set_cons_zero, List.set_cons_succ]
      refine wpAnyX_take (i := 8) (oi := _) (v := ?_) rfl (by kernel_rfl) (by kernel_rfl) (by kernel_rfl) (by kernel_rfl) (fun _ _ _ h => h) (Or.inl ⟨by rfl, ?_⟩) hS0 ?_
      rotate_left 1
      · (intro w hSw; (try dsimp only at hSw); go_simp; (try with_reducible rfl))
      try simp only [Act.put, List.setIfInBounds_toArray, List.set_cons_zero, List.set_cons_succ]
      refine wpAnyX_take (i := 9) (oi := _) (v := ?_) rfl (by kernel_rfl) (by kernel_rfl) (by kernel_rfl) (by kernel_rfl) (fun _ _ _ h => h) (Or.inl ⟨by rfl, ?_⟩) hS0 ?_
      rotate_left 1
      · (intro w hSw; (try dsimp only at hSw); go_simp; (try with_reducible rfl))
      try simp only [Act.put, List.setIfInBounds_toArray, List.set_cons_zero, List.set_cons_succ]
      refine wpAnyX_take (i := 10) (oi := _) (v := ?_) rfl (by kernel_rfl) (by kernel_rfl) (by kernel_rfl) (by kernel_rfl) (fun _ _ _ h => h) (Or.inl ⟨by rfl, ?_⟩) hS0 ?_
      rotate_left 1
      · (intro w hSw; (try dsimp only at hSw); go_simp; (try with_reducible rfl))
      try simp only [Act.put, List.setIfInBounds_toArray, List.set_cons_zero, List.set_cons_succ]
      refine wpAnyX_take (i := 11) (oi := _) (v := ?_) rfl (by kernel_rfl) (by kernel_rfl) (by kernel_rfl) (by kernel_rfl) (fun _ _ _ h => h) (Or.inl ⟨by rfl, ?_⟩) hS0 ?_
      rotate_left 1
      · (intro w hSw; (try dsimp only at hSw); go_simp; (try with_reducible rfl))
      try simp only [Act.put, List.setIfInBounds_toArray, List.set_cons_zero, List.set_cons_succ]
      refine wpAnyX_one (i := 12) (o := _) rfl (by kernel_rfl) (fun K hK => ?_)
      go_simp
      refine hK.out _ _ (fun _ => ?_) (fun hS1 => ?_)
      · first | exact ⟨kal (hS0.1), kal (hS0.2.1), kal (hS0.2.2.1), kal (hS0.2.2.2.1), kal (hS0.2.2.2.2.1), kal (hS0.2.2.2.2.2.1), kal (hS0.2.2.2.2.2.2.1), kal (hS0.2.2.2.2.2.2.2)⟩ | exact ⟨kald (hS0.1), kald (hS0.2.1), kald (hS0.2.2.1), kald (hS0.2.2.2.1), kald (hS0.2.2.2.2.1), kald (hS0.2.2.2.2.2.1), kald (hS0.2.2.2.2.2.2.1), kald (hS0.2.2.2.2.2.2.2)⟩
      clear hK K
      have hS1 := hS1 (by decide)
      try simp only [Act.put, List.setIfInBounds_toArray, List.set_cons_zero, List.set_cons_succ]
      refine wpAnyX_one (i := 13) (o := _) rfl (by kernel_rfl) (fun K hK => ?_)
      refine step_append_lies _ (by rfl) _ _ _ (by rfl) (w.heap.size + 1 + 1 + 1) 37 i0 _ 5 40 Try.underlying24 hi0 hz0 hz1 hz2 rfl (by omega) v j (csL (tab j F)) (by rfl) (((World.ownsRow.alloc (by have := HO.out; unfold Own5 at this; rw [tab_len] at this; exact this) _).drew)) ⟨wr.heap.size, 0, none⟩ 1 1 x.cs (by rfl) (by rfl) (World.news_of_block (cs := x.cs.toArray) (t := 37) (fr := (0, 0)) (heap_alloc_new _ _)) (by simp [D5.cs, Value.oneCell']) (by omega) (append_ok (by omega)).1 (append_ok (by omega)).2 (by simp; omega) (wr.heap.size + 1) (by simp) ?_; intro gg cap w9 hown9 hgrow9 hat9 hlt9
      refine hK.out _ _ (fun _ => ?_) (fun hS2 => ?_)
      · exact ⟨hgrow9.cell (hS1.1) nem, hgrow9.cell (hS1.2.1) nem, hgrow9.cell (hS1.2.2.1) neo, hgrow9.cell (hS1.2.2.2.1) neg, hgrow9.cell (hS1.2.2.2.2.1) neg, hgrow9.cell (hS1.2.2.2.2.2.1) neg, hgrow9.cell (hS1.2.2.2.2.2.2.1) neg, hgrow9.cell (hS1.2.2.2.2.2.2.2) neg⟩
      clear hK K
      have hS2 := hS2 (by decide)
      try simp only [Act.put, List.setIfInBounds_toArray, List.set_cons_zero, List.set_cons_succ]
      refine wpAnyX_take (i := 14) (oi := _) (v := ?_) rfl (by kernel_rfl) (by kernel_rfl) (by kernel_rfl) (by kernel_rfl) (fun _ _ _ h => h) (Or.inl ⟨by rfl, ?_⟩) hS2 ?_
      rotate_left 1
      · (intro w hSw; (try dsimp only at hSw); go_simp; (try with_reducible rfl))
      try simp only [Act.put, List.setIfInBounds_toArray, List.set_cons_zero, List.set_cons_succ]
      refine wpAnyX_one (i := 15) (o := _) rfl (by kernel_rfl) (fun K hK => ?_)
      have Yo := (Bx.drew (Bx.alloc Xo.out _)).grown hgrow9 neo
      have yo2 := Yo.c 2 rfl
      have yof := Yo.f 2
      go_simp
      refine hK.out _ _ (fun h => absurd rfl h) (fun _ => ?_)
      clear hK K
      try simp only [Act.put, List.setIfInBounds_toArray, List.set_cons_zero, List.set_cons_succ]
      refine wpAnyX_done (by kernel_rfl) ?_ _
      go_wp2_with (fail)
      go_roundg m
      case measure => omega
      case rel =>
        have hz9 := hgrow9.size
        simp only [World.size_alloc, World.size_drew] at hz9
        have Ym := (Bx.drew (Bx.alloc Xm.out _)).grown hgrow9 nem
        have Yz := (Bx.drew (Bx.alloc Xz.out _)).grown hgrow9 nez
        refine ⟨j + 1, .slice (some ⟨gg, 0, none⟩) (j + 1) cap, by omega, by go_num, Ym.far (by omega), Yz.far (by omega), Yo.set rfl, ?_, by (try simp only [World.size_setCell, World.size_drew]); omega, ?_⟩
        · show Own5 _ _ _ _ _
          rw [tab_succ, HX.out]
          exact (Own5.snoc (tab_len _ _) hown9).far (by show w.heap.size + 1 + 1 < _; omega) _
        · refine Below.setCell ?_ (by show w.heap.size ≤ w.heap.size + 1 + 1; omega) _
          refine Below.grown (((hB.alloc (by omega) _)).drew) hgrow9 (by simp only [World.size_drew, World.size_alloc]; omega) (fun q e => by have := (hvl _ e).1; omega)

set_option maxRecDepth 100000 in
set_option maxHeartbeats 2000000 in
theorem in_t {k lo hi : Int} (h1 : lo ≤ k) (h2 : k ≤ hi) (w : World) :
    Calls Try.prog 93 #[.int .i64 k, .int .i64 lo, .int .i64 hi] w fun ee w' => ee = .returned (.bool true) ∧ w = w' := by
  go_enter Try.func93, Try.ntmps93
  go_wp2_with (fail)
  go_ret
  exact ⟨rfl, rfl⟩

set_option maxRecDepth 100000 in
set_option maxHeartbeats 2000000 in
theorem in_l {k lo hi : Int} (h1 : k < lo) (w : World) :
    Calls Try.prog 93 #[.int .i64 k, .int .i64 lo, .int .i64 hi] w fun ee w' => ee = .returned (.bool false) ∧ w = w' := by
  have h2 : decide (lo ≤ k) = false := by simp; omega
  go_enter Try.func93, Try.ntmps93
  go_wp2_with (fail)
  go_ret
  exact ⟨rfl, rfl⟩

set_option maxRecDepth 100000 in
set_option maxHeartbeats 2000000 in
theorem in_h {k lo hi : Int} (h1 : lo ≤ k) (h3 : hi < k) (w : World) :
    Calls Try.prog 93 #[.int .i64 k, .int .i64 lo, .int .i64 hi] w fun ee w' => ee = .returned (.bool false) ∧ w = w' := by
  have h2 : decide (k ≤ hi) = false := by simp; omega
  go_enter Try.func93, Try.ntmps93
  go_wp2_with (fail)
  go_ret
  exact ⟨rfl, rfl⟩

theorem okM_nat {r c : Int} {n : Nat} {xs : List D5} (h : okM r c n xs = true) : ∃ R C : Nat, r = (R : Int) ∧ c = (C : Int) ∧ n = R * C ∧ 1 ≤ R ∧ R ≤ 32 ∧ 1 ≤ C ∧ C ≤ 32 ∧ n ≤ 1024 := by
  obtain ⟨h1, h2, h3, _⟩ := okM_iff.1 h
  obtain ⟨r0, r1, c0, c1, p0, p1⟩ := prod_bd h1 h2
  refine ⟨r.toNat, c.toNat, by omega, by omega, ?_, by omega, by omega, by omega, by omega, by omega⟩
  have : ((r.toNat * c.toNat : Nat) : Int) = r * c := by rw [Int.natCast_mul, Int.toNat_of_nonneg (by omega), Int.toNat_of_nonneg (by omega)]
  omega

end Go.Proofs.Ytncgccpkbneagaa
namespace Go.Proofs.Ytncgccpkbneagaa
open Go.RowKit RM
set_option linter.unusedVariables false
set_option linter.unusedSimpArgs false
attribute [local irreducible] World.setCell

theorem okM_nat2 {R C n : Nat} {xs : List D5} (h : okM (R : Int) (C : Int) n xs = true) : n = R * C ∧ 1 ≤ R ∧ R ≤ 32 ∧ 1 ≤ C ∧ C ≤ 32 ∧ n ≤ 1024 := by
  obtain ⟨R', C', e1, e2, hnn, h1, h2, h3, h4, h5⟩ := okM_nat h
  obtain rfl : R = R' := by omega
  obtain rfl : C = C' := by omega
  exact ⟨hnn, h1, h2, h3, h4, h5⟩
/-- a row of a matrix: where it begins, where it ends -/
theorem row_at {R C n i : Nat} (hnn : n = R * C) (hi : i < R) : ∃ s : Nat, (i : Int) * (C : Int) = (s : Int) ∧ ((i : Int) + 1) * (C : Int) = ((s + C : Nat) : Int) ∧ s + C ≤ n ∧ s = i * C := by
  refine ⟨i * C, by simp, by rw [Int.natCast_add, Int.natCast_mul, Int.add_mul, Int.one_mul], ?_, rfl⟩
  have h1 : (i + 1) * C ≤ R * C := Nat.mul_le_mul_right C hi
  rw [Nat.add_mul, Nat.one_mul, ← hnn] at h1
  exact h1
theorem Rd.cx {W : World} {g q : Nat} {xs : List D5} {x : D5} (h : Rd W (some ⟨g, 0, none⟩) xs) (hx : xs[q]? = some x) : Cx W g (q * 5) x := by
  obtain ⟨g', o, e, hc⟩ := h q x hx
  simp only [Option.some.injEq, Addr.mk.injEq, and_true] at e
  obtain ⟨rfl, rfl⟩ := e
  rw [Nat.zero_add] at hc
  exact hc

end Go.Proofs.Ytncgccpkbneagaa
namespace Go.Proofs.Ytncgccpkbneagaa
open Go.RowKit RM
set_option linter.unusedVariables false
set_option linter.unusedSimpArgs false
attribute [local irreducible] World.setCell

/-- does any of the first j fail? -/
def anyB (j : Nat) (G : Nat → Bool) : Bool := (List.range j).any G
theorem anyB_0 (G : Nat → Bool) : anyB 0 G = false := rfl
theorem anyB_succ (j : Nat) (G : Nat → Bool) : anyB (j + 1) G = (anyB j G || G j) := by
  unfold anyB; rw [List.range_succ, List.any_append]; simp
theorem anyB_get {j q : Nat} {G : Nat → Bool} (h : anyB j G = false) (hq : q < j) : G q = false := by
  unfold anyB at h
  have := List.any_eq_false.1 h q (List.mem_range.2 hq)
  simpa using this
theorem anyB_of {j q : Nat} {G : Nat → Bool} (hq : q < j) (h : G q = true) : anyB j G = true := by
  cases hh : anyB j G
  · rw [anyB_get hh hq] at h; cases h
  · rfl
theorem anyB_f {j : Nat} {G : Nat → Bool} (h : ∀ q, q < j → G q = false) : anyB j G = false := by
  cases hh : anyB j G
  · rfl
  · unfold anyB at hh
    obtain ⟨q, hq, hg⟩ := List.any_eq_true.1 hh
    rw [h q (List.mem_range.1 hq)] at hg; cases hg
theorem anyB_congr {j : Nat} {G H : Nat → Bool} (h : ∀ q, q < j → G q = H q) : anyB j G = anyB j H := by
  cases hh : anyB j H
  · exact anyB_f (fun q hq => by rw [h q hq]; exact anyB_get hh hq)
  · cases hg : anyB j G
    · rw [anyB_f (fun q hq => by rw [← h q hq]; exact anyB_get hg hq)] at hh; cases hh
    · rfl
/-- what a model's function of matrices answers: nothing if a computation failed -/
def MR (w w' : World) (ee : Ending) (r c : Int) (n : Nat) (zs : List D5) (bad : Bool) : Prop :=
  (bad = true → ee = .returned (mt 0 0 none 0 0 false)) ∧ (bad = false → ∃ B cq, ee = .returned (mt r c B n cq true) ∧ Rd w' B zs ∧ (∀ a, B = some a → w.heap.size ≤ a.block)) ∧ Below w.heap.size w w'
/-- the state of a loop that appends what may fail: the failure so far, the numbers so far -/
def Sofar (z : Bool) (zs : List D5) (j : Nat) (F : Nat → D5) (G : Nat → Bool) : Prop := zs.length = j ∧ z = anyB j G ∧ (z = false → zs = tab j F)
theorem Sofar.start (F : Nat → D5) (G : Nat → Bool) : Sofar false [] 0 F G := ⟨rfl, rfl, fun _ => rfl⟩
theorem Sofar.next {z : Bool} {zs : List D5} {j : Nat} {F : Nat → D5} {G : Nat → Bool} {r : D5 × Bool} (h : Sofar z zs j F G) (h1 : z = false → r = (F j, G j)) (h2 : z = true → r.2 = true) : Sofar r.2 (zs ++ [r.1]) (j + 1) F G := by
  obtain ⟨hl, hz, hs⟩ := h
  refine ⟨by simp [hl], ?_, ?_⟩
  · rw [anyB_succ, ← hz]
    cases z
    · rw [h1 rfl]; rfl
    · rw [h2 rfl]; rfl
  · intro hr
    cases z
    · rw [h1 rfl, tab_succ, hs rfl]
    · rw [h2 rfl] at hr; cases hr
theorem kbad {a b : World} {g o k i : Nat} {u v : Value} (hb : Below a.heap.size (a.setCell ⟨g, o, none⟩ u) b) (hne : g ≠ k) (h : a.cell? ⟨k, i, none⟩ = some v) : b.cell? ⟨k, i, none⟩ = some v := by
  have h1 : (a.setCell ⟨g, o, none⟩ u).cell? ⟨k, i, none⟩ = some v := by rw [World.cell?_setCell_far _ _ _ _ hne, h]
  exact (hb.cell (p := ⟨k, i, none⟩) (World.block_lt_of_cell? a _ h)).trans h1
theorem Own5.badly {W W' : World} {base g o : Nat} {t : TypeId} {v u : Value} {xs : List D5} (h : Own5 W base t v xs) (hb : Below W.heap.size (W.setCell ⟨g, o, none⟩ u) W') (hg : g < base) : Own5 W' base t v xs :=
  (h.far (p := ⟨g, o, none⟩) hg u).mono (by rw [World.size_setCell]; exact hb)
theorem bad_below {W W' w : World} {g o : Nat} {u : Value} (hB : Below w.heap.size w W) (hb : Below W.heap.size (W.setCell ⟨g, o, none⟩ u) W') (hg : w.heap.size ≤ g) : Below w.heap.size w W' :=
  chain (hB.setCell (p := ⟨g, o, none⟩) hg u) hb hB.size
theorem bad_size {W W' : World} {g o : Nat} {u : Value} (hb : Below W.heap.size (W.setCell ⟨g, o, none⟩ u) W') : W.heap.size ≤ W'.heap.size := by
  have := hb.size; rwa [World.size_setCell] at this
theorem bad_drew {W W' : World} {g o : Nat} {u : Value} (hb : Below W.drew.heap.size (W.drew.setCell ⟨g, o, none⟩ u) W') : Below W.heap.size (W.setCell ⟨g, o, none⟩ u) W' := by
  rw [World.setCell_drew] at hb
  exact ⟨hb.os, hb.tape, hb.output, hb.size, hb.block⟩

set_option maxRecDepth 100000 in
set_option maxHeartbeats 2000000 in
theorem cmat_t {r c : Int} {A : Option Addr} {n cp g : Nat} {w : World} (h0 : w.cell? ⟨g, 0, none⟩ = some (.bool true)) :
    Calls Try.prog 75 #[.pointer (some ⟨g, 0, none⟩), mv r c A n cp] w fun ee w' => ee = .returned (mt 0 0 none 0 0 false) ∧ Below w.heap.size w w' := by
  have hg := World.block_lt_of_cell? w _ h0
  have hg1 : g < w.heap.size := hg
  have hg2 : g < w.heap.size + 1 := by omega
  go_enter Try.func75, Try.ntmps75
  go_wp2_with (fail)
  refine bodyPost_ret (v := mt 0 0 none 0 0 false) (by first | (simp [results, Try.results75, go_sem, *]; done) | (simp (disch := (first | omega | (simp; done) | (simp; omega))) [results, Try.results75, go_sem, *]; done) | (simp only [results, Try.results75]; go_simp; done)) rfl ⟨rfl, ?_⟩
  (repeat' (first | (with_reducible exact Below.refl _ _) | (with_reducible assumption) | (with_reducible refine Below.alloc ?_ ?_ _) | (with_reducible refine Below.drew ?_) | (with_reducible refine below_drewN ?_ _) | (with_reducible refine Below.setCell ?_ ?_ _) | (with_reducible refine chain ?_ (by assumption) ?_) | omega | (simp; done) | (simp; omega)))

set_option maxRecDepth 100000 in
set_option maxHeartbeats 2000000 in
theorem cmat_f {r c : Int} {A : Option Addr} {n cp g : Nat} {w : World} (h0 : w.cell? ⟨g, 0, none⟩ = some (.bool false)) :
    Calls Try.prog 75 #[.pointer (some ⟨g, 0, none⟩), mv r c A n cp] w fun ee w' => ee = .returned (mt r c A n cp true) ∧ Below w.heap.size w w' := by
  have hg := World.block_lt_of_cell? w _ h0
  have hg1 : g < w.heap.size := hg
  have hg2 : g < w.heap.size + 1 := by omega
  go_enter Try.func75, Try.ntmps75
  go_wp2_with (fail)
  refine bodyPost_ret (v := mt r c A n cp true) (by first | (simp [results, Try.results75, go_sem, *]; done) | (simp (disch := (first | omega | (simp; done) | (simp; omega))) [results, Try.results75, go_sem, *]; done) | (simp only [results, Try.results75]; go_simp; done)) rfl ⟨rfl, ?_⟩
  (repeat' (first | (with_reducible exact Below.refl _ _) | (with_reducible assumption) | (with_reducible refine Below.alloc ?_ ?_ _) | (with_reducible refine Below.drew ?_) | (with_reducible refine below_drewN ?_ _) | (with_reducible refine Below.setCell ?_ ?_ _) | (with_reducible refine chain ?_ (by assumption) ?_) | omega | (simp; done) | (simp; omega)))

end Go.Proofs.Ytncgccpkbneagaa
