/- QGv, QRdC, Oa, Ob, Oc, Od, Oe, Of, LwOp, Sa, Sb, Sc, LwSa -/
import Derived.Test.YtncgccpkbneagaaZq
import Derived.Test.YtncgccpkbneagaaRows
import Derived.ProofKit
import Derived.OpenShut
import Derived.ShutString
import Derived.ChangeOld
import Derived.Below
import Derived.Lib.SmallJoins
import Derived.Deep.Slices
import Derived.Deep.Strs
import Derived.DataReads
import Derived.Test.YtncgccpkbneagaaZlg
import Derived.Test.YtncgccpkbneagaaZmu
import Derived.Test.YtncgccpkbneagaaZgj
import Derived.Test.YtncgccpkbneagaaBad
import Derived.Test.YtncgccpkbneagaaIdn
import Derived.Test.YtncgccpkbneagaaZar
import Derived.Test.YtncgccpkbneagaaVm2
import Derived.Test.YtncgccpkbneagaaZtab
import Derived.Test.YtncgccpkbneagaaZls
import Derived.Test.YtncgccpkbneagaaZcol
namespace Go.Proofs.Ytncgccpkbneagaa
open Go.RowKit RM
set_option linter.unusedVariables false
set_option linter.unusedSimpArgs false
attribute [local irreducible] World.setCell

/-- column k -/
def colF (c k : Nat) (xs : List D5) (i : Nat) : D5 := xs.getD (i * c + k) z5

set_option maxRecDepth 100000 in
set_option maxHeartbeats 4000000 in
theorem lcol {r : Nat} {c k n cp : Nat} {A : Option Addr} {xs : List D5} {w : World} (hA : Rd w A xs) (hn : xs.length = n) (hr : n = r * c) (hk : k < c) (hb : n ≤ 1024) (hr2 : r ≤ 32) (hc2 : c ≤ 32) :
    Calls Try.prog 107 #[mv (r : Int) (c : Int) A n cp, .int .i64 (k : Int)] w fun ee w' => ∃ (B : Option Addr) (cq : Nat), ee = .returned (mv (r : Int) 1 B r cq) ∧ Rd w' B (tab r (colF c k xs)) ∧ (∀ a, B = some a → w.heap.size ≤ a.block) ∧ Below w.heap.size w w' := by
  obtain ⟨i0, hi0, hz0, hz1, hz2⟩ := info_parts infoD
  have HA := hid hA
  have HN := hid hn
  have HR := hid hr
  have k0 : (k : Int) < (c : Int) := by omega
  have k1 : (c : Int) ≤ 32 := by omega
  have k2 : (r : Int) ≤ 32 := by omega
  clear hA hn hr
  obtain ⟨F, hF⟩ : ∃ F, F = colF c k xs := ⟨_, rfl⟩
  have HF := hid hF
  rw [← hF]
  clear hF
  go_enter Try.func107, Try.ntmps107
  go_wp2_with (fail)
  go_loopg [6] r (fun q s1 wr => ∃ (j : Nat) (v : Value), j + q = r ∧ s1 = .int .i64 (j : Int) ∧ Hid (Bx wr (w.heap.size) 26 #[.int .i64 (r : Int), .int .i64 (c : Int), .slice A n cp]) ∧ Hid (Bx wr (w.heap.size + 1) 26 #[.int .i64 0, .int .i64 0, .slice none 0 0]) ∧ Hid (Bx wr (w.heap.size + 1 + 1) 26 #[.int .i64 (r : Int), .int .i64 1, v]) ∧ Hid (Own5 wr (w.heap.size + 1 + 1 + 1) 37 v (tab j F)) ∧ w.heap.size + 1 + 1 + 1 ≤ wr.heap.size ∧ Below w.heap.size w wr)
  case atStart => exact ⟨0, .slice none 0 0, by omega, rfl, (by show Bx _ _ _ _; (repeat' (first | (with_reducible assumption) | (refine Bx.new (by first | (with_reducible rfl) | (simp; done))) | (with_reducible refine Bx.alloc ?_ _) | (with_reducible refine Bx.drew ?_) | (with_reducible refine Bx.drewN ?_ _) | (with_reducible refine Bx.mono ?_ (by assumption)) | (with_reducible refine Bx.badly ?_ (by assumption) (by omega)) | (with_reducible refine Bx.far ?_ (by (try simp only [World.size_alloc, World.size_drew]); omega)) | (with_reducible refine Bx.set ?_ rfl) | (with_reducible refine Bx.grown ?_ (by assumption) (by assumption))))), (by show Bx _ _ _ _; (repeat' (first | (with_reducible assumption) | (refine Bx.new (by first | (with_reducible rfl) | (simp; done))) | (with_reducible refine Bx.alloc ?_ _) | (with_reducible refine Bx.drew ?_) | (with_reducible refine Bx.drewN ?_ _) | (with_reducible refine Bx.mono ?_ (by assumption)) | (with_reducible refine Bx.badly ?_ (by assumption) (by omega)) | (with_reducible refine Bx.far ?_ (by (try simp only [World.size_alloc, World.size_drew]); omega)) | (with_reducible refine Bx.set ?_ rfl) | (with_reducible refine Bx.grown ?_ (by assumption) (by assumption))))), (by show Bx _ _ _ _; (repeat' (first | (with_reducible assumption) | (refine Bx.new (by first | (with_reducible rfl) | (simp; done))) | (with_reducible refine Bx.alloc ?_ _) | (with_reducible refine Bx.drew ?_) | (with_reducible refine Bx.drewN ?_ _) | (with_reducible refine Bx.mono ?_ (by assumption)) | (with_reducible refine Bx.badly ?_ (by assumption) (by omega)) | (with_reducible refine Bx.far ?_ (by (try simp only [World.size_alloc, World.size_drew]); omega)) | (with_reducible refine Bx.set ?_ rfl) | (with_reducible refine Bx.grown ?_ (by assumption) (by assumption))))), Own5.nil _ _ _, by simp, by (repeat' (first | (with_reducible exact Below.refl _ _) | (with_reducible assumption) | (with_reducible refine Below.alloc ?_ ?_ _) | (with_reducible refine Below.drew ?_) | (with_reducible refine below_drewN ?_ _) | (with_reducible refine Below.setCell ?_ ?_ _) | (with_reducible refine chain ?_ (by assumption) ?_) | omega | (simp; done) | (simp; omega)))⟩
  case round =>
    obtain ⟨j, v, hj, rfl, Xm, Xz, Xo, HO, hsz, hB⟩ := hrel
    have cm0 := Xm.out.c 0 rfl
    have cm1 := Xm.out.c 1 rfl
    have cm2 := Xm.out.c 2 rfl
    have lm := Xm.out.lt
    have cz0 := Xz.out.c 0 rfl
    have cz1 := Xz.out.c 1 rfl
    have cz2 := Xz.out.c 2 rfl
    have lz := Xz.out.lt
    have fz := Xz.out.f
    have co0 := Xo.out.c 0 rfl
    have co1 := Xo.out.c 1 rfl
    have co2 := Xo.out.c 2 rfl
    have lo := Xo.out.lt
    have fo := Xo.out.f
    cases gk with
    | zero =>
      obtain rfl : j = r := by omega
      have HO1 := HO.out
      obtain ⟨B, cq, rfl, hRd, hBa⟩ := HO1.form
      rw [tab_len] at HO1 co2
      have HBa := hid hBa
      clear hBa
      have HRd := hid hRd
      clear hRd
      go_wp2_with (fail)
      refine bodyPost_ret (v := mv (j : Int) 1 B j cq) (by first | (simp [results, Try.results107, go_sem, *]; done) | (simp (disch := (first | omega | (simp; done) | (simp; omega))) [results, Try.results107, go_sem, *]; done)) rfl ⟨B, cq, rfl, ?_, fun a ha => by have := (HBa.out a ha).1; omega, ?_⟩
      · exact ((HRd.out.far (fun a ha => by have := (HBa.out a ha).1; show _ ≠ w.heap.size + 1; omega) _).far (fun a ha => by have := (HBa.out a ha).1; show _ ≠ w.heap.size + 1; omega) _).far (fun a ha => by have := (HBa.out a ha).1; show _ ≠ w.heap.size + 1; omega) _
      · (repeat' (first | (with_reducible exact Below.refl _ _) | (with_reducible assumption) | (with_reducible refine Below.alloc ?_ ?_ _) | (with_reducible refine Below.setCell ?_ ?_ _) | omega | (simp; done)))
    | succ m =>
      have hlt : j < r := by omega
      have hvl := World.ownsRow.lt HO.out
      have nem : some (w.heap.size) ≠ v.ownBlock := fun e => by have := (hvl _ e.symm).1; omega
      have nez : some (w.heap.size + 1) ≠ v.ownBlock := fun e => by have := (hvl _ e.symm).1; omega
      have neo : some (w.heap.size + 1 + 1) ≠ v.ownBlock := fun e => by have := (hvl _ e.symm).1; omega
      have hq : j * c + k < n := by
        have h1 : (j + 1) * c ≤ r * c := Nat.mul_le_mul_right c hlt
        rw [Nat.add_mul, ← HR.out] at h1
        omega
      have hx := get_of (xs := xs) (q := j * c + k) (by rw [HN.out]; exact hq)
      obtain ⟨x, hxe⟩ : ∃ x, x = xs.getD (j * c + k) z5 := ⟨_, rfl⟩
      rw [← hxe] at hx
      have HX : Hid (F j = x) := by show F j = x; rw [HF.out, hxe]; rfl
      clear hxe
      obtain ⟨g, o, rfl, hC⟩ := HA.out _ x hx
      obtain ⟨q0, q1, q2, q3, q4⟩ := hC.at_ (hB.block g hC.lt)
      have hgw := hC.lt
      clear hC hx
      obtain ⟨t, ht⟩ : ∃ t, t = j * c := ⟨_, rfl⟩
      rw [← ht] at q0 q1 q2 q3 q4 hq
      have e1 : (j : Int) * (c : Int) = (t : Int) := by rw [ht]; simp
      clear ht
      obtain ⟨s, hs⟩ : ∃ s, s = t + k := ⟨_, rfl⟩
      rw [← hs] at q0 q1 q2 q3 q4 hq
      have e2 : IntKind.i64.wrap (t : Int) = (t : Int) := IntWalk.i64_in _ (by omega)
      have e3 : IntKind.i64.wrap ((t : Int) + (k : Int)) = (s : Int) := by rw [hs, Int.natCast_add]; exact IntWalk.i64_in _ (by omega)
      have e4 : (s : Int) < (n : Int) := by omega
      clear hs
      go_wp2_with (fail)
      have neg : some g ≠ v.ownBlock := fun e => by have := (hvl _ e.symm).1; omega
      have ycm2 : wr.drew.cell? ⟨w.heap.size, 2, none⟩ = some (.slice (some ⟨g, o, none⟩) n cp) := cm2
      have ycm1 : wr.drew.cell? ⟨w.heap.size, 1, none⟩ = some (.int .i64 (c : Int)) := cm1
      have yco2 : wr.drew.cell? ⟨w.heap.size + 1 + 1, 2, none⟩ = some (v) := co2
      have yq0 : wr.drew.cell? ⟨g, o + s * 5, none⟩ = some (.int .i64 x.a) := q0
      have yq1 : wr.drew.cell? ⟨g, o + s * 5 + 1, none⟩ = some (.int .i64 x.b) := q1
      have yq2 : wr.drew.cell? ⟨g, o + s * 5 + 2, none⟩ = some (.int .i64 x.c) := q2
      have yq3 : wr.drew.cell? ⟨g, o + s * 5 + 3, none⟩ = some (.int .i64 x.d) := q3
      have yq4 : wr.drew.cell? ⟨g, o + s * 5 + 4, none⟩ = some (.int .i64 x.e) := q4
      refine wp_region_x (fun w' => w'.cell? ⟨w.heap.size, 2, none⟩ = some (.slice (some ⟨g, o, none⟩) n cp) ∧ w'.cell? ⟨w.heap.size, 1, none⟩ = some (.int .i64 (c : Int)) ∧ w'.cell? ⟨w.heap.size + 1 + 1, 2, none⟩ = some (v) ∧ w'.cell? ⟨g, o + s * 5, none⟩ = some (.int .i64 x.a) ∧ w'.cell? ⟨g, o + s * 5 + 1, none⟩ = some (.int .i64 x.b) ∧ w'.cell? ⟨g, o + s * 5 + 2, none⟩ = some (.int .i64 x.c) ∧ w'.cell? ⟨g, o + s * 5 + 3, none⟩ = some (.int .i64 x.d) ∧ w'.cell? ⟨g, o + s * 5 + 4, none⟩ = some (.int .i64 x.e)) 15 (by kernel_rfl) ⟨ycm2, ycm1, yco2, yq0, yq1, yq2, yq3, yq4⟩ (fun hS0 => ?_)
      refine wpAnyX_take (i := 0) (oi := _) (v := ?_) rfl (by kernel_rfl) (by kernel_rfl) (by kernel_rfl) (by kernel_rfl) (fun _ _ _ h => h) (Or.inl ⟨by rfl, ?_⟩) hS0 ?_
      rotate_left 1
      · (intro w hSw; (try dsimp only at hSw); go_simp; (try with_reducible rfl))
      try simp only [Act.put, List.setIfInBounds_toArray, List.set_cons_zero, List.set_cons_succ]
      refine wpAnyX_take (i := 1) (oi := _) (v := ?_) rfl (by kernel_rfl) (by kernel_rfl) (by kernel_rfl) (by kernel_rfl) (fun _ _ _ h => h) (Or.inl ⟨by rfl, ?_⟩) hS0 ?_
      rotate_left 1
      · (intro w hSw; (try dsimp only at hSw); go_simp; (try with_reducible rfl))
      try simp only [Act.put, List.setIfInBounds_toArray, List.set_cons_zero, List.set_cons_succ]
      refine wpAnyX_take (i := 2) (oi := _) (v := ?_) rfl (by kernel_rfl) (by kernel_rfl) (by kernel_rfl) (by kernel_rfl) (fun _ _ _ h => h) (Or.inl ⟨by rfl, ?_⟩) hS0 ?_
      rotate_left 1
      · (intro w hSw; (try dsimp only at hSw); go_simp; (try with_reducible rfl))
      try simp only [Act.put, List.setIfInBounds_toArray, List.set_cons_zero, List.set_cons_succ]
      refine wpAnyX_take (i := 3) (oi := _) (v := ?_) rfl (by kernel_rfl) (by kernel_rfl) (by kernel_rfl) (by kernel_rfl) (fun _ _ _ h => h) (Or.inl ⟨by rfl, ?_⟩) hS0 ?_
      rotate_left 1
      · (intro w hSw; (try dsimp only at hSw); go_simp; (try with_reducible rfl))
      try simp only [Act.put, List.setIfInBounds_toArray, List.set_cons_zero, List.set_cons_succ]
      refine wpAnyX_take (i := 4) (oi := _) (v := ?_) rfl (by kernel_rfl) (by kernel_rfl) (by kernel_rfl) (by kernel_rfl) (fun _ _ _ h => h) (Or.inl ⟨by rfl, ?_⟩) hS0 ?_
      rotate_left 1
      · (intro w hSw; (try dsimp only at hSw); go_simp; (try with_reducible rfl))
      try simp only [Act.put, List.setIfInBounds_toArray, List.set_cons_zero, List.set_cons_succ]
      refine wpAnyX_take (i := 5) (oi := _) (v := ?_) rfl (by kernel_rfl) (by kernel_rfl) (by kernel_rfl) (by kernel_rfl) (fun _ _ _ h => h) (Or.inl ⟨by rfl, ?_⟩) hS0 ?_
      rotate_left 1
      · (intro w hSw; (try dsimp only at hSw); go_simp; (try with_reducible rfl))
      try simp only [Act.put, List.setIfInBounds_toArray, List.set_cons_zero, List.set_cons_succ]
      refine wpAnyX_take (i := 6) (oi := _) (v := ?_) rfl (by kernel_rfl) (by kernel_rfl) (by kernel_rfl) (by kernel_rfl) (fun _ _ _ h => h) (Or.inl ⟨by rfl, ?_⟩) hS0 ?_
      rotate_left 1
      · (intro w hSw; (try dsimp only at hSw); go_simp; (try with_reducible rfl))
      try simp only [Act.put, List.setIfInBounds_toArray, List.set_cons_zero, List.set_cons_succ]
      refine wpAnyX_take (i := 7) (oi := _) (v := ?_) rfl (by kernel_rfl) (by kernel_rfl) (by kernel_rfl) (by kernel_rfl) (fun _ _ _ h => h) (Or.inl ⟨by rfl, ?_⟩) hS0 ?_
      rotate_left 1
      · (intro w hSw; (try dsimp only at hSw); go_simp; (try with_reducible rfl))
      try simp only [Act.put, List.setIfInBounds_toArray, List.set_cons_zero, List.set_cons_succ]
      refine wpAnyX_take (i := 8) (oi := _) (v := ?_) rfl (by kernel_rfl) (by kernel_rfl) (by kernel_rfl) (by kernel_rfl) (fun _ _ _ h => h) (Or.inl ⟨by rfl, ?_⟩) hS0 ?_
      rotate_left 1
      · (intro w hSw; (try dsimp only at hSw); go_simp; (try with_reducible rfl))
      try simp only [Act.put, List.setIfInBounds_toArray, List.set_cons_zero, List.set_cons_succ]
      refine wpAnyX_take (i := 9) (oi := _) (v := ?_) rfl (by kernel_rfl) (by kernel_rfl) (by kernel_rfl) (by kernel_rfl) (fun _ _ _ h => h) (Or.inl ⟨by rfl, ?_⟩) hS0 ?_
      rotate_left 1
      · (intro w hSw; (try dsimp only at hSw); go_simp; (try with_reducible rfl))
      try simp only [Act.put, List.setIfInBounds_toArray, List.set_cons_zero, List.set_cons_succ]
      refine wpAnyX_take (i := 10) (oi := _) (v := ?_) rfl (by kernel_rfl) (by kernel_rfl) (by kernel_rfl) (by kernel_rfl) (fun _ _ _ h => h) (Or.inl ⟨by rfl, ?_⟩) hS0 ?_
      rotate_left 1
      · (intro w hSw; (try dsimp only at hSw); go_simp; (try with_reducible rfl))
      try simp only [Act.put, List.setIfInBounds_toArray, List.set_cons_zero, List.set_cons_succ]
      refine wpAnyX_take (i := 11) (oi := _) (v := ?_) rfl (by kernel_rfl) (by kernel_rfl) (by kernel_rfl) (by kernel_rfl) (fun _ _ _ h => h) (Or.inl ⟨by rfl, ?_⟩) hS0 ?_
      rotate_left 1
      · (intro w hSw; (try dsimp only at hSw); go_simp; (try with_reducible rfl))
      try simp only [Act.put, List.setIfInBounds_toArray, List.set_cons_zero, List.set_cons_succ]
      refine wpAnyX_one (i := 12) (o := _) rfl (by kernel_rfl) (fun K hK => ?_)
      go_simp
      refine hK.out _ _ (fun _ => ?_) (fun hS1 => ?_)
      · first | exact ⟨kal (hS0.1), kal (hS0.2.1), kal (hS0.2.2.1), kal (hS0.2.2.2.1), kal (hS0.2.2.2.2.1), kal (hS0.2.2.2.2.2.1), kal (hS0.2.2.2.2.2.2.1), kal (hS0.2.2.2.2.2.2.2)⟩ | exact ⟨kald (hS0.1), kald (hS0.2.1), kald (hS0.2.2.1), kald (hS0.2.2.2.1), kald (hS0.2.2.2.2.1), kald (hS0.2.2.2.2.2.1), kald (hS0.2.2.2.2.2.2.1), kald (hS0.2.2.2.2.2.2.2)⟩
      clear hK K
      have hS1 := hS1 (by decide)
      try simp only [Act.put, List.setIfInBounds_toArray, List.set_cons_zero, List.set_cons_succ]
      refine wpAnyX_one (i := 13) (o := _) rfl (by kernel_rfl) (fun K hK => ?_)
      refine step_append_lies _ (by rfl) _ _ _ (by rfl) (w.heap.size + 1 + 1 + 1) 37 i0 _ 5 40 Try.underlying24 hi0 hz0 hz1 hz2 rfl (by omega) v j (csL (tab j F)) (by rfl) (((World.ownsRow.alloc (by have := HO.out; unfold Own5 at this; rw [tab_len] at this; exact this) _).drew)) ⟨wr.heap.size, 0, none⟩ 1 1 x.cs (by rfl) (by rfl) (World.news_of_block (cs := x.cs.toArray) (t := 37) (fr := (0, 0)) (heap_alloc_new _ _)) (by simp [D5.cs, Value.oneCell']) (by omega) (append_ok (by omega)).1 (append_ok (by omega)).2 (by simp; omega) (wr.heap.size + 1) (by simp) ?_; intro gg cap w9 hown9 hgrow9 hat9 hlt9
      refine hK.out _ _ (fun _ => ?_) (fun hS2 => ?_)
      · exact ⟨hgrow9.cell (hS1.1) nem, hgrow9.cell (hS1.2.1) nem, hgrow9.cell (hS1.2.2.1) neo, hgrow9.cell (hS1.2.2.2.1) neg, hgrow9.cell (hS1.2.2.2.2.1) neg, hgrow9.cell (hS1.2.2.2.2.2.1) neg, hgrow9.cell (hS1.2.2.2.2.2.2.1) neg, hgrow9.cell (hS1.2.2.2.2.2.2.2) neg⟩
      clear hK K
      have hS2 := hS2 (by decide)
      try simp only [Act.put, List.setIfInBounds_toArray, List.set_cons_zero, List.set_cons_succ]
      refine wpAnyX_take (i := 14) (oi := _) (v := ?_) rfl (by kernel_rfl) (by kernel_rfl) (by kernel_rfl) (by kernel_rfl) (fun _ _ _ h => h) (Or.inl ⟨by rfl, ?_⟩) hS2 ?_
      rotate_left 1
      · (intro w hSw; (try dsimp only at hSw); go_simp; (try with_reducible rfl))
      try simp only [Act.put, List.setIfInBounds_toArray, List.set_cons_zero, List.set_cons_succ]
      refine wpAnyX_one (i := 15) (o := _) rfl (by kernel_rfl) (fun K hK => ?_)
      have Yo := (Bx.drew (Bx.alloc Xo.out _)).grown hgrow9 neo
      have yo2 := Yo.c 2 rfl
      have yof := Yo.f 2
      go_simp
      refine hK.out _ _ (fun h => absurd rfl h) (fun _ => ?_)
      clear hK K
      try simp only [Act.put, List.setIfInBounds_toArray, List.set_cons_zero, List.set_cons_succ]
      refine wpAnyX_done (by kernel_rfl) ?_ _
      go_wp2_with (fail)
      go_roundg m
      case measure => omega
      case rel =>
        have hz9 := hgrow9.size
        simp only [World.size_alloc, World.size_drew] at hz9
        have Ym := (Bx.drew (Bx.alloc Xm.out _)).grown hgrow9 nem
        have Yz := (Bx.drew (Bx.alloc Xz.out _)).grown hgrow9 nez
        refine ⟨j + 1, .slice (some ⟨gg, 0, none⟩) (j + 1) cap, by omega, by go_num, Ym.far (by omega), Yz.far (by omega), Yo.set rfl, ?_, by (try simp only [World.size_setCell, World.size_drew]); omega, ?_⟩
        · show Own5 _ _ _ _ _
          rw [tab_succ, HX.out]
          exact (Own5.snoc (tab_len _ _) hown9).far (by show w.heap.size + 1 + 1 < _; omega) _
        · refine Below.setCell ?_ (by show w.heap.size ≤ w.heap.size + 1 + 1; omega) _
          refine Below.grown (((hB.alloc (by omega) _)).drew) hgrow9 (by simp only [World.size_drew, World.size_alloc]; omega) (fun q e => by have := (hvl _ e).1; omega)

set_option maxRecDepth 100000 in
set_option maxHeartbeats 2000000 in
theorem in_t {k lo hi : Int} (h1 : lo ≤ k) (h2 : k ≤ hi) (w : World) :
    Calls Try.prog 93 #[.int .i64 k, .int .i64 lo, .int .i64 hi] w fun ee w' => ee = .returned (.bool true) ∧ w = w' := by
  go_enter Try.func93, Try.ntmps93
  go_wp2_with (fail)
  go_ret
  exact ⟨rfl, rfl⟩

set_option maxRecDepth 100000 in
set_option maxHeartbeats 2000000 in
theorem in_l {k lo hi : Int} (h1 : k < lo) (w : World) :
    Calls Try.prog 93 #[.int .i64 k, .int .i64 lo, .int .i64 hi] w fun ee w' => ee = .returned (.bool false) ∧ w = w' := by
  have h2 : decide (lo ≤ k) = false := by simp; omega
  go_enter Try.func93, Try.ntmps93
  go_wp2_with (fail)
  go_ret
  exact ⟨rfl, rfl⟩

set_option maxRecDepth 100000 in
set_option maxHeartbeats 2000000 in
theorem in_h {k lo hi : Int} (h1 : lo ≤ k) (h3 : hi < k) (w : World) :
    Calls Try.prog 93 #[.int .i64 k, .int .i64 lo, .int .i64 hi] w fun ee w' => ee = .returned (.bool false) ∧ w = w' := by
  have h2 : decide (k ≤ hi) = false := by simp; omega
  go_enter Try.func93, Try.ntmps93
  go_wp2_with (fail)
  go_ret
  exact ⟨rfl, rfl⟩


end Go.Proofs.Ytncgccpkbneagaa

namespace Go.Proofs.Ytncgccpkbneagaa.C4
open Go.RowKit
set_option linter.unusedVariables false
set_option linter.unusedSimpArgs false
attribute [local irreducible] World.setCell

/-- a valid circuit of n gates -/
def okC (q : Int) (n : Nat) (xs : List GateV) : Bool := inB q 1 5 && decide (n ≤ 400) && xs.all (gB q)
theorem okC_q {q : Int} {n : Nat} {xs : List GateV} (h : inB q 1 5 = false) : okC q n xs = false := by unfold okC; rw [h]; rfl
theorem okC_n {q : Int} {n : Nat} {xs : List GateV} (h : 400 < n) : okC q n xs = false := by
  unfold okC; rw [decide_eq_false (by omega)]; simp
theorem okC_l {q : Int} {n : Nat} {xs : List GateV} (h : inB q 1 5 = true) (h2 : n ≤ 400) : okC q n xs = xs.all (gB q) := by
  unfold okC; rw [h, decide_eq_true h2]; rfl
theorem okC_iff {q : Int} {n : Nat} {xs : List GateV} : okC q n xs = true ↔ 1 ≤ q ∧ q ≤ 5 ∧ n ≤ 400 ∧ ∀ (i : Nat) (g : GateV), xs[i]? = some g → gB q g = true := by
  unfold okC
  simp only [Bool.and_eq_true, inB_iff, decide_eq_true_eq, List.all_eq_true]
  constructor
  · rintro ⟨⟨⟨h1, h2⟩, h3⟩, h4⟩
    exact ⟨h1, h2, h3, fun i g hg => h4 g (List.mem_of_getElem? hg)⟩
  · rintro ⟨h1, h2, h3, h4⟩
    refine ⟨⟨⟨h1, h2⟩, h3⟩, fun g hg => ?_⟩
    obtain ⟨i, hi, he⟩ := List.getElem_of_mem hg
    exact h4 i g (by rw [List.getElem?_eq_getElem hi, he])
theorem all_at {q : Int} {xs : List GateV} {j : Nat} {x : GateV} (hx : xs[j]? = some x) (h : gB q x = false) : xs.all (gB q) = false := by
  rw [List.all_eq_false]
  exact ⟨x, List.mem_of_getElem? hx, by rw [h]; decide⟩
theorem all_of {q : Int} {xs : List GateV} (h : ∀ (i : Nat) (g : GateV), xs[i]? = some g → gB q g = true) : xs.all (gB q) = true := by
  rw [List.all_eq_true]
  intro g hg
  obtain ⟨i, hi, he⟩ := List.getElem_of_mem hg
  exact h i g (by rw [List.getElem?_eq_getElem hi, he])
set_option maxRecDepth 100000 in
set_option maxHeartbeats 4000000 in
theorem vcs {a0 : Int} {A1 : Option Addr} {n1 c1 : Nat} {xs : List GateV} {t : Bool} {w : World} (h : okC a0 n1 xs = t) (hA : Rd gateE w A1 xs) (hn : xs.length = n1) (hm : n1 ≤ maxLen) :
    Calls Try.prog 100 #[circuitV a0 A1 n1 c1] w fun ee w' => ee = .returned (.bool t) ∧ Below w.heap.size w w' := by
  have hu : n1 ≤ 9223372036854775807 := by unfold maxLen at hm; omega
  cases hq : inB a0 1 5
  · have HT : Hid (false = t) := by rw [← h, okC_q hq]; rfl
    have HQ := lay hq
    clear h hA hn hq
    go_enter Try.func100, Try.ntmps100
    go_wp2_with ((go_at_call 93; ((with_reducible refine (lin HQ.out _).mono ?_); rintro ee w1 ⟨rfl, rfl⟩)))
    go_ret
    refine ⟨ret_bool HT.out, ?_⟩
    (repeat' (first | (with_reducible exact Below.refl _ _) | (with_reducible assumption) | (with_reducible refine Below.alloc ?_ ?_ _) | (with_reducible refine Below.drew ?_) | (with_reducible refine bdN ?_ _) | (with_reducible refine Below.setCell ?_ ?_ _) | (with_reducible refine chn ?_ (by assumption) ?_) | omega | (simp; done) | (simp; omega)))
  by_cases h4 : 400 < n1
  · have HT : Hid (false = t) := by rw [← h, okC_n h4]; rfl
    have HQ := lay hq
    have h5 : (400 : Int) < (n1 : Int) := by omega
    clear h hA hn hq
    go_enter Try.func100, Try.ntmps100
    go_wp2_with ((go_at_call 93; ((with_reducible refine (lin HQ.out _).mono ?_); rintro ee w1 ⟨rfl, rfl⟩)))
    go_ret
    refine ⟨ret_bool HT.out, ?_⟩
    (repeat' (first | (with_reducible exact Below.refl _ _) | (with_reducible assumption) | (with_reducible refine Below.alloc ?_ ?_ _) | (with_reducible refine Below.drew ?_) | (with_reducible refine bdN ?_ _) | (with_reducible refine Below.setCell ?_ ?_ _) | (with_reducible refine chn ?_ (by assumption) ?_) | omega | (simp; done) | (simp; omega)))
  rw [okC_l hq (by omega)] at h
  obtain ⟨q1, q5⟩ := inB_iff.1 hq
  have hb : n1 ≤ 400 := by omega
  have h6 : ¬ ((400 : Int) < (n1 : Int)) := by omega
  have HT := lay h
  have HQ := lay hq
  have HA := lay hA
  have HN := lay hn
  clear h hA hn hq
  go_enter Try.func100, Try.ntmps100
  go_wp2_with (first | (go_at_call 93; ((with_reducible refine (lin HQ.out _).mono ?_); rintro ee w1 ⟨rfl, rfl⟩)) | fail)
  go_loopg [18] n1 (fun k s1 wr => ∃ j : Nat, j + k = n1 ∧ s1 = .int .i64 (j : Int) ∧ Hid (∀ (i : Nat) (g : GateV), i < j → xs[i]? = some g → gB a0 g = true) ∧ Hid (Bb wr (w.heap.size) 69 #[.int .i64 a0, .slice A1 n1 c1]) ∧ Below w.heap.size w wr)
  case atStart => exact ⟨0, by omega, rfl, fun i g hi => absurd hi (Nat.not_lt_zero i), (by show Bb _ _ _ _; (repeat' (first | (with_reducible assumption) | (refine Bb.new (by first | (with_reducible rfl) | (simp; done))) | (with_reducible refine Bb.alloc ?_ _) | (with_reducible refine Bb.drew ?_) | (with_reducible refine Bb.drewN ?_ _) | (with_reducible refine Bb.mono ?_ (by assumption)) | (with_reducible refine Bb.far ?_ (by (try simp only [World.size_alloc, World.size_drew]); omega)) | (with_reducible refine Bb.set ?_ rfl) | (with_reducible refine Bb.grown ?_ (by assumption) (by assumption))))), by (repeat' (first | (with_reducible exact Below.refl _ _) | (with_reducible assumption) | (with_reducible refine Below.alloc ?_ ?_ _) | (with_reducible refine Below.drew ?_) | (with_reducible refine bdN ?_ _) | (with_reducible refine Below.setCell ?_ ?_ _) | (with_reducible refine chn ?_ (by assumption) ?_) | omega | (simp; done) | (simp; omega)))⟩
  case round =>
    obtain ⟨j, hj, rfl, HJ, Xa, hB⟩ := hrel
    have hBz := hB.size
    have ca0 := Xa.out.c 0 rfl
    have ca1 := Xa.out.c 1 rfl
    have la := Xa.out.lt
    cases gk with
    | zero =>
      obtain rfl : j = n1 := by omega
      have HH : Hid (true = t) := by rw [← HT.out]; exact (all_of (fun i g hg => HJ.out i g (by have := (List.getElem?_eq_some_iff.1 hg).1; rw [HN.out] at this; exact this) hg)).symm
      go_wp2_with (fail)
      go_ret
      exact ⟨ret_bool HH.out, hB⟩
    | succ m =>
      have hlt : j < n1 := by omega
      obtain ⟨x, hx⟩ : ∃ x, xs[j]? = some x := ⟨_, List.getElem?_eq_getElem (by rw [HN.out]; exact hlt)⟩
      obtain ⟨g, o, rfl, hgw, hC⟩ := HA.out.atGate hx
      have hC' : wr.cell? ⟨g, o + j * 3, none⟩ = some (.int .i64 x.f0) ∧ wr.cell? ⟨g, o + j * 3 + 1, none⟩ = some (.int .i64 x.f1) ∧ wr.cell? ⟨g, o + j * 3 + 2, none⟩ = some (.int .i64 x.f2) := ⟨(World.cell?_of_block (hB.block g hgw)).trans hC.1, (World.cell?_of_block (hB.block g hgw)).trans hC.2.1, (World.cell?_of_block (hB.block g hgw)).trans hC.2.2⟩
      obtain ⟨q0, q1', q2⟩ := hC'
      clear hC
      have HX := lay hx
      clear hx
      cases hk : gB a0 x
      · have HK := lay hk
        have HH : Hid (false = t) := by rw [← HT.out]; exact (all_at HX.out (by exact HK.out)).symm
        clear hk
        go_wp2_with ((go_at_call 94; ((with_reducible refine (lg HK.out q1 q5 _).mono ?_); rintro ee w4 ⟨rfl, hb4⟩)))
        go_ret
        refine ⟨ret_bool HH.out, ?_⟩
        (repeat' (first | (with_reducible exact Below.refl _ _) | (with_reducible assumption) | (with_reducible refine Below.alloc ?_ ?_ _) | (with_reducible refine Below.drew ?_) | (with_reducible refine bdN ?_ _) | (with_reducible refine Below.setCell ?_ ?_ _) | (with_reducible refine chn ?_ (by assumption) ?_) | omega | (simp; done) | (simp; omega)))
      · have HK := lay hk
        clear hk
        go_wp2_with ((go_at_call 94; ((with_reducible refine (lg HK.out q1 q5 _).mono ?_); rintro ee w4 ⟨rfl, hb4⟩)))
        have hW : Below wr.heap.size wr w4 := by (repeat' (first | (with_reducible exact Below.refl _ _) | (with_reducible assumption) | (with_reducible refine Below.alloc ?_ ?_ _) | (with_reducible refine Below.drew ?_) | (with_reducible refine bdN ?_ _) | (with_reducible refine Below.setCell ?_ ?_ _) | (with_reducible refine chn ?_ (by assumption) ?_) | omega | (simp; done) | (simp; omega)))
        go_roundg m
        case measure => omega
        case rel =>
          refine ⟨j + 1, by omega, by go_num, fun i g hi hg => ?_, Xa.out.mono hW, ?_⟩
          · by_cases e : i = j
            · subst e; rw [HX.out] at hg; cases hg; exact HK.out
            · exact HJ.out i g (by omega) hg
          · exact chn hB hW hB.size

set_option maxRecDepth 100000 in
set_option maxHeartbeats 4000000 in
theorem vci {a0 : Int} {A1 : Option Addr} {n1 c1 : Nat} {xs : List GateV} {t : Bool} {w : World} (h : okC a0 n1 xs = t) (hA : Rd gateE w A1 xs) (hn : xs.length = n1) (hm : n1 ≤ maxLen) :
    Calls Try.prog 103 #[circuitV a0 A1 n1 c1] w fun ee w' => ee = .returned (.bool t) ∧ Below w.heap.size w w' := by
  have hu : n1 ≤ 9223372036854775807 := by unfold maxLen at hm; omega
  cases hq : inB a0 1 5
  · have HT : Hid (false = t) := by rw [← h, okC_q hq]; rfl
    have HQ := lay hq
    clear h hA hn hq
    go_enter Try.func103, Try.ntmps103
    go_wp2_with ((go_at_call 139; ((with_reducible refine (iqc HQ.out _).mono ?_); rintro ee w1 ⟨rfl, rfl⟩)))
    go_ret
    refine ⟨ret_bool HT.out, ?_⟩
    (repeat' (first | (with_reducible exact Below.refl _ _) | (with_reducible assumption) | (with_reducible refine Below.alloc ?_ ?_ _) | (with_reducible refine Below.drew ?_) | (with_reducible refine bdN ?_ _) | (with_reducible refine Below.setCell ?_ ?_ _) | (with_reducible refine chn ?_ (by assumption) ?_) | omega | (simp; done) | (simp; omega)))
  by_cases h4 : 400 < n1
  · have HT : Hid (false = t) := by rw [← h, okC_n h4]; rfl
    have HQ := lay hq
    have h5 : (400 : Int) < (n1 : Int) := by omega
    clear h hA hn hq
    go_enter Try.func103, Try.ntmps103
    go_wp2_with ((go_at_call 139; ((with_reducible refine (iqc HQ.out _).mono ?_); rintro ee w1 ⟨rfl, rfl⟩)))
    go_ret
    refine ⟨ret_bool HT.out, ?_⟩
    (repeat' (first | (with_reducible exact Below.refl _ _) | (with_reducible assumption) | (with_reducible refine Below.alloc ?_ ?_ _) | (with_reducible refine Below.drew ?_) | (with_reducible refine bdN ?_ _) | (with_reducible refine Below.setCell ?_ ?_ _) | (with_reducible refine chn ?_ (by assumption) ?_) | omega | (simp; done) | (simp; omega)))
  rw [okC_l hq (by omega)] at h
  obtain ⟨q1, q5⟩ := inB_iff.1 hq
  have hb : n1 ≤ 400 := by omega
  have h6 : ¬ ((400 : Int) < (n1 : Int)) := by omega
  have HT := lay h
  have HQ := lay hq
  have HA := lay hA
  have HN := lay hn
  clear h hA hn hq
  go_enter Try.func103, Try.ntmps103
  go_wp2_with (first | (go_at_call 139; ((with_reducible refine (iqc HQ.out _).mono ?_); rintro ee w1 ⟨rfl, rfl⟩)) | fail)
  go_loopg [18] n1 (fun k s1 wr => ∃ j : Nat, j + k = n1 ∧ s1 = .int .i64 (j : Int) ∧ Hid (∀ (i : Nat) (g : GateV), i < j → xs[i]? = some g → gB a0 g = true) ∧ Hid (Bb wr (w.heap.size) 69 #[.int .i64 a0, .slice A1 n1 c1]) ∧ Below w.heap.size w wr)
  case atStart => exact ⟨0, by omega, rfl, fun i g hi => absurd hi (Nat.not_lt_zero i), (by show Bb _ _ _ _; (repeat' (first | (with_reducible assumption) | (refine Bb.new (by first | (with_reducible rfl) | (simp; done))) | (with_reducible refine Bb.alloc ?_ _) | (with_reducible refine Bb.drew ?_) | (with_reducible refine Bb.drewN ?_ _) | (with_reducible refine Bb.mono ?_ (by assumption)) | (with_reducible refine Bb.far ?_ (by (try simp only [World.size_alloc, World.size_drew]); omega)) | (with_reducible refine Bb.set ?_ rfl) | (with_reducible refine Bb.grown ?_ (by assumption) (by assumption))))), by (repeat' (first | (with_reducible exact Below.refl _ _) | (with_reducible assumption) | (with_reducible refine Below.alloc ?_ ?_ _) | (with_reducible refine Below.drew ?_) | (with_reducible refine bdN ?_ _) | (with_reducible refine Below.setCell ?_ ?_ _) | (with_reducible refine chn ?_ (by assumption) ?_) | omega | (simp; done) | (simp; omega)))⟩
  case round =>
    obtain ⟨j, hj, rfl, HJ, Xa, hB⟩ := hrel
    have hBz := hB.size
    have ca0 := Xa.out.c 0 rfl
    have ca1 := Xa.out.c 1 rfl
    have la := Xa.out.lt
    cases gk with
    | zero =>
      obtain rfl : j = n1 := by omega
      have HH : Hid (true = t) := by rw [← HT.out]; exact (all_of (fun i g hg => HJ.out i g (by have := (List.getElem?_eq_some_iff.1 hg).1; rw [HN.out] at this; exact this) hg)).symm
      go_wp2_with (fail)
      go_ret
      exact ⟨ret_bool HH.out, hB⟩
    | succ m =>
      have hlt : j < n1 := by omega
      obtain ⟨x, hx⟩ : ∃ x, xs[j]? = some x := ⟨_, List.getElem?_eq_getElem (by rw [HN.out]; exact hlt)⟩
      obtain ⟨g, o, rfl, hgw, hC⟩ := HA.out.atGate hx
      have hC' : wr.cell? ⟨g, o + j * 3, none⟩ = some (.int .i64 x.f0) ∧ wr.cell? ⟨g, o + j * 3 + 1, none⟩ = some (.int .i64 x.f1) ∧ wr.cell? ⟨g, o + j * 3 + 2, none⟩ = some (.int .i64 x.f2) := ⟨(World.cell?_of_block (hB.block g hgw)).trans hC.1, (World.cell?_of_block (hB.block g hgw)).trans hC.2.1, (World.cell?_of_block (hB.block g hgw)).trans hC.2.2⟩
      obtain ⟨q0, q1', q2⟩ := hC'
      clear hC
      have HX := lay hx
      clear hx
      cases hk : vgB a0 x
      · have HK := lay hk
        have HH : Hid (false = t) := by rw [← HT.out]; exact (all_at HX.out (by have := HK.out; unfold vgB at this; rw [HQ.out] at this; exact this)).symm
        clear hk
        go_wp2_with ((go_at_call 96; ((with_reducible refine (ivg HK.out _).mono ?_); rintro ee w4 ⟨rfl, hb4⟩)))
        go_ret
        refine ⟨ret_bool HH.out, ?_⟩
        (repeat' (first | (with_reducible exact Below.refl _ _) | (with_reducible assumption) | (with_reducible refine Below.alloc ?_ ?_ _) | (with_reducible refine Below.drew ?_) | (with_reducible refine bdN ?_ _) | (with_reducible refine Below.setCell ?_ ?_ _) | (with_reducible refine chn ?_ (by assumption) ?_) | omega | (simp; done) | (simp; omega)))
      · have HK := lay hk
        clear hk
        go_wp2_with ((go_at_call 96; ((with_reducible refine (ivg HK.out _).mono ?_); rintro ee w4 ⟨rfl, hb4⟩)))
        have hW : Below wr.heap.size wr w4 := by (repeat' (first | (with_reducible exact Below.refl _ _) | (with_reducible assumption) | (with_reducible refine Below.alloc ?_ ?_ _) | (with_reducible refine Below.drew ?_) | (with_reducible refine bdN ?_ _) | (with_reducible refine Below.setCell ?_ ?_ _) | (with_reducible refine chn ?_ (by assumption) ?_) | omega | (simp; done) | (simp; omega)))
        go_roundg m
        case measure => omega
        case rel =>
          refine ⟨j + 1, by omega, by go_num, fun i g hi hg => ?_, Xa.out.mono hW, ?_⟩
          · by_cases e : i = j
            · subst e; rw [HX.out] at hg; cases hg; have := HK.out; unfold vgB at this; rw [HQ.out] at this; exact this
            · exact HJ.out i g (by omega) hg
          · exact chn hB hW hB.size

end Go.Proofs.Ytncgccpkbneagaa.C4
namespace Go.Proofs.Ytncgccpkbneagaa.C4
open Go.ChangeShapes Go.WideShapes Go.ChangeAt Go.RowKit Go.Joins Go.Deep
open Go.ChangeMaps (open_string shut_string)
set_option linter.unusedVariables false
set_option linter.unusedSimpArgs false

theorem cellsCircuit : Try.prog.cellsOf 64 = 2 := by kernel_rfl
set_option maxRecDepth 100000 in
theorem fieldsCircuit : ∃ f0 f1 : Field, Try.prog.underlying 64 = some (.struct #[f0, f1]) ∧ oneCellFields Try.prog #[f0, f1] = true ∧ f0.type = 3 ∧ f1.type = 62 := ⟨_, _, Try.underlying64, by kernel_rfl, rfl, rfl⟩
set_option maxRecDepth 100000 in
theorem argCircuit {H : Type} {enc : TypeId × Value → H} {W : World} {base : Nat} {spare : Nat → Bool} {held : Bool} {r : Reach} {b0 : Nat} {v : Value} {d : DataW H} {p : List MemPlace}
    (hv : Value.okWide Try.prog W r b0 64 v) (h : DataW.Trod enc Try.prog W base spare held 64 v d p) :
    ∃ (a0 : Int) (A1 : Option Addr) (n1 c1 : Nat) (xs1 : List GateV), v = circuitV a0 A1 n1 c1 ∧ I64 a0 ∧ (Rd gateE W A1 xs1 ∧ xs1.length = n1 ∧ n1 ≤ maxLen) := by
  obtain ⟨f0, f1, hs, ho, t0, t1⟩ := fieldsCircuit
  obtain ⟨v0, v1, y0, y1, n, rfl, _, _, h0, h1⟩ := open_agg2 hs ho cellsCircuit hv h
  rw [t0] at h0
  obtain ⟨a0, e0, _, w0⟩ := DataW.trod_int Try.underlying3 h0
  simp only [List.cons.injEq, and_true] at e0
  subst e0
  rw [t1] at h1
  obtain ⟨A1, n1, c1, xs1, rfl, r1⟩ := sliceGate h1
  exact ⟨a0, A1, n1, c1, xs1, rfl, bounds_i64 w0, r1⟩
end Go.Proofs.Ytncgccpkbneagaa.C4
namespace Go.Proofs.Ytncgccpkbneagaa
open Go.RowKit RM
set_option linter.unusedVariables false
set_option linter.unusedSimpArgs false
attribute [local irreducible] World.setCell

open GM
theorem cellC_ok17 : (allN 17 fun k => (cellC k).ok) = true := by decide +kernel
theorem one_le : (allN 9 fun k => allN 4 fun i => decide (one k i ≤ 16)) = true := by decide +kernel
theorem gS_le {n kd A B r c : Nat} (h : okG n kd A B) : gS n kd A B r c ≤ 16 := by
  obtain ⟨h1, h5, h3⟩ := h
  rcases h3 with ⟨k1, k8, hA, rfl⟩ | ⟨k9, k11, hA, hB, hne⟩ | ⟨rfl, rfl, rfl⟩
  · rw [gS_1 k1 k8]
    have b1 : bitS n r A ≤ 1 := by rcases bitS_01 (n := n) (c := r) (q := A) with h | h <;> omega
    have b2 : bitS n c A ≤ 1 := by rcases bitS_01 (n := n) (c := c) (q := A) with h | h <;> omega
    have := of_decide_eq_true (allN_get (allN_get one_le (k := kd) (by omega)) (k := 2 * bitS n r A + bitS n c A) (by omega))
    split <;> omega
  · have : kd = 9 ∨ kd = 10 ∨ kd = 11 := by omega
    rcases this with rfl | rfl | rfl
    · rw [gS_9]; (repeat' split) <;> omega
    · rw [gS_10]; (repeat' split) <;> omega
    · rw [gS_11]; (repeat' split) <;> omega
  · rw [gS_12]; split <;> omega
theorem gsF_ok {n D kd A B q : Nat} (h : okG n kd A B) : (gsF n D kd A B q).ok = true := allN_get cellC_ok17 (by have := gS_le (r := q / D) (c := q % D) h; omega)
/-- the matrix of a gate -/
def gmt (n D : Nat) (g : C4.GateV) : List D5 := tab (D * D) (gsF n D g.f0.toNat g.f1.toNat g.f2.toNat)
def stB (n D C : Nat) (g : C4.GateV) (xs : List D5) : Bool := anyB (D * C) (mmG D C (gmt n D g) xs)
def stF (n D C : Nat) (g : C4.GateV) (xs : List D5) : List D5 := tab (D * C) (mmF D C (gmt n D g) xs)
/-- gates applied one behind the other; none: a product failed -/
def apl (n D C : Nat) : List C4.GateV → List D5 → Option (List D5)
  | [], xs => some xs
  | g :: gs, xs => if stB n D C g xs then none else apl n D C gs (stF n D C g xs)
theorem apl_app {n D C : Nat} (hs : List C4.GateV) : ∀ (gs : List C4.GateV) (xs : List D5), apl n D C (gs ++ hs) xs = (apl n D C gs xs).bind (apl n D C hs) := by
  intro gs
  induction gs with
  | nil => intro xs; rfl
  | cons g gs ih =>
    intro xs
    show (if stB n D C g xs then none else apl n D C (gs ++ hs) (stF n D C g xs)) = (if stB n D C g xs then none else apl n D C gs (stF n D C g xs)).bind _
    split
    · rfl
    · exact ih _
theorem apl_take {n D C j : Nat} {gs : List C4.GateV} {g : C4.GateV} {xs ys : List D5} (hg : gs[j]? = some g) (h : apl n D C (gs.take j) xs = some ys) : apl n D C (gs.take (j + 1)) xs = if stB n D C g ys then none else some (stF n D C g ys) := by
  rw [List.take_add_one, hg, apl_app, h]
  show (if stB n D C g ys then none else apl n D C [] (stF n D C g ys)) = _
  rfl
theorem apl_none {n D C j : Nat} {gs : List C4.GateV} {xs : List D5} (h : apl n D C (gs.take j) xs = none) : apl n D C gs xs = none := by
  have := apl_app (n := n) (D := D) (C := C) (gs.drop j) (gs.take j) xs
  rw [List.take_append_drop, h] at this
  exact this
theorem getD_ok {xs : List D5} (h : allB xs = true) (q : Nat) : (xs.getD q z5).ok = true := by
  by_cases hq : q < xs.length
  · exact all_get h (get_of hq)
  · rw [List.getD_eq_getElem?_getD, List.getElem?_eq_none (by omega)]; exact z5_ok
theorem mmT_okk {ca cb : Nat} {xs ys : List D5} {i j : Nat} {z : Bool} (hx : allB xs = true) (hy : allB ys = true) : ∀ k, (mmT ca cb xs ys i j z k).1.ok = true := by
  intro k
  induction k with
  | zero => exact z5_ok
  | succ k ih =>
    show (if (mmT ca cb xs ys i j z k).2 then mmT ca cb xs ys i j z k else addS _ _ _).1.ok = true
    split
    · exact ih
    · exact addS_ok ih (mulS_ok (getD_ok hx _) (getD_ok hy _))
theorem okM_tab {R C N : Nat} {F : Nat → D5} (hR : dimB (R : Int) = true) (hC : dimB (C : Int) = true) (hN : N = R * C) (h : ∀ q, (F q).ok = true) : okM (R : Int) (C : Int) N (tab N F) = true :=
  okM_iff.2 ⟨hR, hC, by rw [hN]; simp, allB_tab (fun q _ => h q)⟩
theorem gmt_okM {n D : Nat} {g : C4.GateV} (hD : dimB (D : Int) = true) (h : okG n g.f0.toNat g.f1.toNat g.f2.toNat) : okM (D : Int) (D : Int) (D * D) (gmt n D g) = true := okM_tab hD hD rfl (fun q => gsF_ok h)
theorem stF_okM {n D C : Nat} {g : C4.GateV} {xs : List D5} (hD : dimB (D : Int) = true) (hC : dimB (C : Int) = true) (h : okG n g.f0.toNat g.f1.toNat g.f2.toNat) (hx : allB xs = true) : okM (D : Int) (C : Int) (D * C) (stF n D C g xs) = true :=
  okM_tab hD hC rfl (fun q => mmT_okk (okM_iff.1 (gmt_okM hD h)).2.2.2 hx _)
theorem stF_len {n D C : Nat} {g : C4.GateV} {xs : List D5} : (stF n D C g xs).length = D * C := tab_len _ _
theorem own5_head {W : World} {base : Nat} {t : TypeId} {v : Value} {xs : List D5} (h : Own5 W base t v xs) (hn : 0 < xs.length) : ∃ g cap, v = .slice (some ⟨g, 0, none⟩) xs.length cap ∧ Rd W (some ⟨g, 0, none⟩) xs ∧ base ≤ g := by
  obtain ⟨A, cp, hv, hR, hB⟩ := Own5.form h
  obtain ⟨-, h2⟩ := h
  rcases h2 with ⟨-, h3⟩ | ⟨g, cap, cur, h3, h4, -⟩
  · omega
  · rw [hv] at h3
    injection h3 with e1 e2 e3
    subst e1
    exact ⟨g, cp, hv, hR, h4⟩

end Go.Proofs.Ytncgccpkbneagaa
namespace Go.Proofs.Ytncgccpkbneagaa
open Go.RowKit RM
set_option linter.unusedVariables false
set_option linter.unusedSimpArgs false
attribute [local irreducible] World.setCell

open GM
set_option maxRecDepth 100000 in
set_option maxHeartbeats 8000000 in
theorem lgate2 {n D NN kd A B : Nat} {w : World} (hok : okG n kd A B) (hD : D = 2 ^ n) (hNN : NN = D * D) :
    Calls Try.prog 95 #[.int .i64 (n : Int), .agg #[.int .i64 (kd : Int), .int .i64 (A : Int), .int .i64 (B : Int)]] w fun ee w' => ∃ g9 cq : Nat, ee = .returned (mv (D : Int) (D : Int) (some ⟨g9, 0, none⟩) NN cq) ∧ Rd w' (some ⟨g9, 0, none⟩) (tab NN (gsF n D kd A B)) ∧ w.heap.size ≤ g9 ∧ Below w.heap.size w w' := by
  obtain ⟨i0, hi0, hu0, hu1, hu2⟩ := info_parts infoD
  obtain ⟨d2, d32, dw, dw2, dd⟩ := pow_dim hok.1 hok.2.1 hD
  have h5 : (n : Int) ≤ 5 := by have := hok.2.1; omega
  have nn5 : NN ≤ 1024 := by rw [hNN]; exact Nat.mul_le_mul d32 d32
  have HOK := hid hok
  have HD := hid hD
  have EN := hid hNN
  clear hok hD hNN dd
  go_enter Try.func95, Try.ntmps95
  go_wp2_with (fail)
  go_loopg [7] D (fun q s1 wr => ∃ (i : Nat) (v : Value) (zs : List D5), i + q = D ∧ s1 = .int .i64 (i : Int) ∧ Hid (Bx wr (w.heap.size) 59 #[.int .i64 (kd : Int), .int .i64 (A : Int), .int .i64 (B : Int)]) ∧ Hid (Bx wr (w.heap.size + 1) 26 #[.int .i64 0, .int .i64 0, .slice none 0 0]) ∧ Hid (Bx wr (w.heap.size + 1 + 1) 26 #[.int .i64 (D : Int), .int .i64 (D : Int), v]) ∧ Hid (Own5 wr (w.heap.size + 1 + 1 + 1) 37 v zs) ∧ Hid (zs = tab (i * D) (gsF n D kd A B)) ∧ w.heap.size + 1 + 1 + 1 ≤ wr.heap.size ∧ Below w.heap.size w wr)
  case atStart => exact ⟨0, .slice none 0 0, [], by omega, rfl, (by show Bx _ _ _ _; (repeat' (first | (with_reducible assumption) | (refine Bx.new (by first | (with_reducible rfl) | (simp; done))) | (with_reducible refine Bx.alloc ?_ _) | (with_reducible refine Bx.drew ?_) | (with_reducible refine Bx.drewN ?_ _) | (with_reducible refine Bx.mono ?_ (by assumption)) | (with_reducible refine Bx.badly ?_ (by assumption) (by omega)) | (with_reducible refine Bx.far ?_ (by (try simp only [World.size_alloc, World.size_drew]); omega)) | (with_reducible refine Bx.set ?_ rfl) | (with_reducible refine Bx.grown ?_ (by assumption) (by assumption))))), (by show Bx _ _ _ _; (repeat' (first | (with_reducible assumption) | (refine Bx.new (by first | (with_reducible rfl) | (simp; done))) | (with_reducible refine Bx.alloc ?_ _) | (with_reducible refine Bx.drew ?_) | (with_reducible refine Bx.drewN ?_ _) | (with_reducible refine Bx.mono ?_ (by assumption)) | (with_reducible refine Bx.badly ?_ (by assumption) (by omega)) | (with_reducible refine Bx.far ?_ (by (try simp only [World.size_alloc, World.size_drew]); omega)) | (with_reducible refine Bx.set ?_ rfl) | (with_reducible refine Bx.grown ?_ (by assumption) (by assumption))))), (by show Bx _ _ _ _; (repeat' (first | (with_reducible assumption) | (refine Bx.new (by first | (with_reducible rfl) | (simp; done))) | (with_reducible refine Bx.alloc ?_ _) | (with_reducible refine Bx.drew ?_) | (with_reducible refine Bx.drewN ?_ _) | (with_reducible refine Bx.mono ?_ (by assumption)) | (with_reducible refine Bx.badly ?_ (by assumption) (by omega)) | (with_reducible refine Bx.far ?_ (by (try simp only [World.size_alloc, World.size_drew]); omega)) | (with_reducible refine Bx.set ?_ rfl) | (with_reducible refine Bx.grown ?_ (by assumption) (by assumption))))), Own5.nil _ _ _, by show _ = _; rw [Nat.zero_mul]; rfl, by simp, by (repeat' (first | (with_reducible exact Below.refl _ _) | (with_reducible assumption) | (with_reducible refine Below.alloc ?_ ?_ _) | (with_reducible refine Below.drew ?_) | (with_reducible refine below_drewN ?_ _) | (with_reducible refine Below.setCell ?_ ?_ _) | (with_reducible refine chain ?_ (by assumption) ?_) | omega | (simp; done) | (simp; omega)))⟩
  case round =>
    obtain ⟨i, v, zs, hi, rfl, Xg, Xz, Xo, HOw, HZ, hsz, hB⟩ := hrel
    have cg0 := Xg.out.c 0 rfl
    have cg1 := Xg.out.c 1 rfl
    have cg2 := Xg.out.c 2 rfl
    have lg := Xg.out.lt
    have cz0 := Xz.out.c 0 rfl
    have cz1 := Xz.out.c 1 rfl
    have cz2 := Xz.out.c 2 rfl
    have lz := Xz.out.lt
    have fz := Xz.out.f
    have co0 := Xo.out.c 0 rfl
    have co1 := Xo.out.c 1 rfl
    have co2 := Xo.out.c 2 rfl
    have lo := Xo.out.lt
    have fo := Xo.out.f
    cases gk with
    | zero =>
      obtain rfl : i = D := by omega
      obtain ⟨g9, cq, hv, hRd, hBa⟩ := own5_head HOw.out (by rw [HZ.out, tab_len]; exact Nat.mul_pos (by omega) (by omega))
      rw [HZ.out, tab_len, ← EN.out] at hv
      subst hv
      rw [HZ.out, ← EN.out] at hRd
      have HBa := hid hBa
      have HRd := hid hRd
      clear hRd hBa
      have hBq := hB.size
      go_wp2_with (fail)
      refine bodyPost_ret (v := mv (i : Int) (i : Int) (some ⟨g9, 0, none⟩) NN cq) (by first | (simp [results, Try.results95, go_sem, *]; done) | (simp (disch := (first | omega | (simp; done) | (simp; omega))) [results, Try.results95, go_sem, *]; done) | (simp only [results, Try.results95]; go_simp; done)) rfl ⟨g9, cq, rfl, ?_, ?_, ?_⟩
      · (repeat' (first | exact HRd.out | refine Rd.far ?_ (fun a ha => by obtain rfl := Option.some.inj ha; have := HBa.out; show g9 ≠ w.heap.size + 1; omega) _))
      · have := HBa.out; omega
      · (repeat' (first | (with_reducible exact Below.refl _ _) | (with_reducible assumption) | (with_reducible refine Below.alloc ?_ ?_ _) | (with_reducible refine Below.drew ?_) | (with_reducible refine below_drewN ?_ _) | (with_reducible refine Below.setCell ?_ ?_ _) | (with_reducible refine chain ?_ (by assumption) ?_) | omega | (simp; done) | (simp; omega)))
    | succ m9 =>
      have hlti : i < D := by omega
      have i1 : (i : Int) < (D : Int) := by omega
      go_wp2_with (fail)
      go_loopg [8] D (fun q s1 wi => ∃ (j : Nat) (v : Value) (zs : List D5), j + q = D ∧ s1 = .int .i64 (j : Int) ∧ Hid (Bx wi (w.heap.size) 59 #[.int .i64 (kd : Int), .int .i64 (A : Int), .int .i64 (B : Int)]) ∧ Hid (Bx wi (w.heap.size + 1) 26 #[.int .i64 0, .int .i64 0, .slice none 0 0]) ∧ Hid (Bx wi (w.heap.size + 1 + 1) 26 #[.int .i64 (D : Int), .int .i64 (D : Int), v]) ∧ Hid (Own5 wi (w.heap.size + 1 + 1 + 1) 37 v zs) ∧ Hid (zs = tab (i * D + j) (gsF n D kd A B)) ∧ w.heap.size + 1 + 1 + 1 ≤ wi.heap.size ∧ Below w.heap.size w wi)
      case atStart => exact ⟨0, v, zs, by omega, rfl, Xg, Xz, Xo, HOw, by show _ = _; rw [Nat.add_zero]; exact HZ.out, hsz, hB⟩
      case round =>
        clear Xg lg cg0 cg1 cg2 Xz lz cz0 cz1 cz2 fz Xo lo co0 co1 co2 fo HOw HZ hsz hB
        obtain ⟨j, v, zs, hj, rfl, Xg, Xz, Xo, HOw, HZ, hsz, hB⟩ := hrel
        have cg0 := Xg.out.c 0 rfl
        have cg1 := Xg.out.c 1 rfl
        have cg2 := Xg.out.c 2 rfl
        have lg := Xg.out.lt
        have cz0 := Xz.out.c 0 rfl
        have cz1 := Xz.out.c 1 rfl
        have cz2 := Xz.out.c 2 rfl
        have lz := Xz.out.lt
        have fz := Xz.out.f
        have co0 := Xo.out.c 0 rfl
        have co1 := Xo.out.c 1 rfl
        have co2 := Xo.out.c 2 rfl
        have lo := Xo.out.lt
        have fo := Xo.out.f
        cases gk with
        | zero =>
          obtain rfl : j = D := by omega
          go_wp2_with (fail)
          go_roundg m9
          case measure => omega
          case rel =>
            refine ⟨i + 1, v, zs, by omega, by go_num, Xg, Xz, Xo, HOw, ?_, hsz, hB⟩
            show _ = _
            rw [Nat.add_mul, Nat.one_mul]; exact HZ.out
        | succ m2 =>
          have hltj : j < D := by omega
          have j1 : (j : Int) < (D : Int) := by omega
          have hBq := hB.size
          obtain ⟨t, t1, t2, t3, t4⟩ := row_at (i := i) EN.out hlti
          have hl : zs.length = t + j := by rw [HZ.out, tab_len, t4]
          have HL := hid hl
          have T4 := hid t4
          clear hl t1 t2 t4
          have hvl := World.ownsRow.lt HOw.out
          have neg : some (w.heap.size) ≠ v.ownBlock := fun e => by have := (hvl _ e.symm).1; omega
          have nez : some (w.heap.size + 1) ≠ v.ownBlock := fun e => by have := (hvl _ e.symm).1; omega
          have neo : some (w.heap.size + 1 + 1) ≠ v.ownBlock := fun e => by have := (hvl _ e.symm).1; omega
          have HVL := hid hvl
          clear hvl
          have hcell := fun W => lcell (w := W) (r := i) (c := j) HOK.out (by rw [← HD.out]; exact hlti) (by rw [← HD.out]; exact hltj)
          obtain ⟨x, hx⟩ : ∃ x, x = cellC (gS n kd A B i j) := ⟨_, rfl⟩
          rw [← hx] at hcell
          have HX := hid hx
          have HCELL := hid hcell
          clear hx hcell
          go_wp2_with (fail)
          have yco2 : wr.drew.cell? ⟨w.heap.size + 1 + 1, 2, none⟩ = some (v) := co2
          have ycg0 : wr.drew.cell? ⟨w.heap.size, 0, none⟩ = some (.int .i64 (kd : Int)) := cg0
          have ycg1 : wr.drew.cell? ⟨w.heap.size, 1, none⟩ = some (.int .i64 (A : Int)) := cg1
          have ycg2 : wr.drew.cell? ⟨w.heap.size, 2, none⟩ = some (.int .i64 (B : Int)) := cg2
          refine wp_region_x (fun w' => w'.cell? ⟨w.heap.size + 1 + 1, 2, none⟩ = some (v) ∧ w'.cell? ⟨w.heap.size, 0, none⟩ = some (.int .i64 (kd : Int)) ∧ w'.cell? ⟨w.heap.size, 1, none⟩ = some (.int .i64 (A : Int)) ∧ w'.cell? ⟨w.heap.size, 2, none⟩ = some (.int .i64 (B : Int))) 10 (by kernel_rfl) ⟨yco2, ycg0, ycg1, ycg2⟩ (fun hS0 => ?_)
          refine wpAnyX_take (i := 0) (oi := _) (v := ?_) rfl (by kernel_rfl) (by kernel_rfl) (by kernel_rfl) (by kernel_rfl) (fun _ _ _ h => h) (Or.inl ⟨by rfl, ?_⟩) hS0 ?_
          rotate_left 1
          · (intro w hSw; (try dsimp only at hSw); go_simp; (try with_reducible rfl))
          try simp only [Act.put, List.setIfInBounds_toArray, List.set_cons_zero, List.set_cons_succ]
          refine wpAnyX_take (i := 1) (oi := _) (v := ?_) rfl (by kernel_rfl) (by kernel_rfl) (by kernel_rfl) (by kernel_rfl) (fun _ _ _ h => h) (Or.inl ⟨by rfl, ?_⟩) hS0 ?_
          rotate_left 1
          · (intro w hSw; (try dsimp only at hSw); go_simp; (try with_reducible rfl))
          try simp only [Act.put, List.setIfInBounds_toArray, List.set_cons_zero, List.set_cons_succ]
          refine wpAnyX_take (i := 2) (oi := _) (v := ?_) rfl (by kernel_rfl) (by kernel_rfl) (by kernel_rfl) (by kernel_rfl) (fun _ _ _ h => h) (Or.inl ⟨by rfl, ?_⟩) hS0 ?_
          rotate_left 1
          · (intro w hSw; (try dsimp only at hSw); go_simp; (try with_reducible rfl))
          try simp only [Act.put, List.setIfInBounds_toArray, List.set_cons_zero, List.set_cons_succ]
          refine wpAnyX_take (i := 3) (oi := _) (v := ?_) rfl (by kernel_rfl) (by kernel_rfl) (by kernel_rfl) (by kernel_rfl) (fun _ _ _ h => h) (Or.inl ⟨by rfl, ?_⟩) hS0 ?_
          rotate_left 1
          · (intro w hSw; (try dsimp only at hSw); go_simp; (try with_reducible rfl))
          try simp only [Act.put, List.setIfInBounds_toArray, List.set_cons_zero, List.set_cons_succ]
          refine wpAnyX_take (i := 4) (oi := _) (v := ?_) rfl (by kernel_rfl) (by kernel_rfl) (by kernel_rfl) (by kernel_rfl) (fun _ _ _ h => h) (Or.inl ⟨by rfl, ?_⟩) hS0 ?_
          rotate_left 1
          · (intro w hSw; (try dsimp only at hSw); go_simp; (try with_reducible rfl))
          try simp only [Act.put, List.setIfInBounds_toArray, List.set_cons_zero, List.set_cons_succ]
          refine wpAnyX_take (i := 5) (oi := _) (v := ?_) rfl (by kernel_rfl) (by kernel_rfl) (by kernel_rfl) (by kernel_rfl) (fun _ _ _ h => h) (Or.inl ⟨by rfl, ?_⟩) hS0 ?_
          rotate_left 1
          · (intro w hSw; (try dsimp only at hSw); go_simp; (try with_reducible rfl))
          try simp only [Act.put, List.setIfInBounds_toArray, List.set_cons_zero, List.set_cons_succ]
          refine wpAnyX_one (i := 6) (o := _) rfl (by kernel_rfl) (fun K hK => ?_)
          go_simp
          refine (HCELL.out _).mono ?_
          rintro ee w8 ⟨rfl, hb80⟩
          have hb8 : Below wr.heap.size wr w8 := ⟨hb80.os, hb80.tape, hb80.output, hb80.size, hb80.block⟩
          have hz8 := hb8.size
          refine hK.out _ _ (fun _ => ?_) (fun hS1 => ?_)
          · exact ⟨kc hb80 (hS0.1), kc hb80 (hS0.2.1), kc hb80 (hS0.2.2.1), kc hb80 (hS0.2.2.2)⟩
          clear hK K
          have hS1 := hS1 (by decide)
          try simp only [Act.put, List.setIfInBounds_toArray, List.set_cons_zero, List.set_cons_succ]
          refine wpAnyX_one (i := 7) (o := _) rfl (by kernel_rfl) (fun K hK => ?_)
          go_simp
          refine hK.out _ _ (fun _ => ?_) (fun hS2 => ?_)
          · first | exact ⟨kal (hS1.1), kal (hS1.2.1), kal (hS1.2.2.1), kal (hS1.2.2.2)⟩ | exact ⟨kald (hS1.1), kald (hS1.2.1), kald (hS1.2.2.1), kald (hS1.2.2.2)⟩
          clear hK K
          have hS2 := hS2 (by decide)
          try simp only [Act.put, List.setIfInBounds_toArray, List.set_cons_zero, List.set_cons_succ]
          refine wpAnyX_one (i := 8) (o := _) rfl (by kernel_rfl) (fun K hK => ?_)
          refine step_append_lies _ (by rfl) _ _ _ (by rfl) (w.heap.size + 1 + 1 + 1) 37 i0 _ 5 40 Try.underlying24 hi0 hu0 hu1 hu2 rfl (by omega) v (t + j) (csL zs) (by rfl) (World.ownsRow.alloc (by have := HOw.out.mono hb8; unfold Own5 at this; rw [HL.out] at this; exact this) _) ⟨w8.heap.size, 0, none⟩ 1 1 x.cs (by rfl) (by rfl) (World.news_of_block (cs := x.cs.toArray) (t := 37) (fr := (0, 0)) (heap_alloc_new _ _)) (by simp [D5.cs, Value.oneCell']) (by omega) (append_ok (by omega)).1 (append_ok (by omega)).2 (by simp; omega) (w8.heap.size + 1) (by simp) ?_
          intro gg cap w9 hown9 hgrow9 hat9 hlt9
          refine hK.out _ _ (fun _ => ?_) (fun hS3 => ?_)
          · exact ⟨hgrow9.cell (hS2.1) neo, hgrow9.cell (hS2.2.1) neg, hgrow9.cell (hS2.2.2.1) neg, hgrow9.cell (hS2.2.2.2) neg⟩
          clear hK K
          have hS3 := hS3 (by decide)
          try simp only [Act.put, List.setIfInBounds_toArray, List.set_cons_zero, List.set_cons_succ]
          refine wpAnyX_take (i := 9) (oi := _) (v := ?_) rfl (by kernel_rfl) (by kernel_rfl) (by kernel_rfl) (by kernel_rfl) (fun _ _ _ h => h) (Or.inl ⟨by rfl, ?_⟩) hS3 ?_
          rotate_left 1
          · (intro w hSw; (try dsimp only at hSw); go_simp; (try with_reducible rfl))
          try simp only [Act.put, List.setIfInBounds_toArray, List.set_cons_zero, List.set_cons_succ]
          refine wpAnyX_one (i := 10) (o := _) rfl (by kernel_rfl) (fun K hK => ?_)
          have Yo := (Bx.alloc (Xo.out.mono hb8) _).grown hgrow9 neo
          have yo2 := Yo.c 2 rfl
          have yof := Yo.f 2
          go_simp
          refine hK.out _ _ (fun h => absurd rfl h) (fun _ => ?_)
          clear hK K
          try simp only [Act.put, List.setIfInBounds_toArray, List.set_cons_zero, List.set_cons_succ]
          refine wpAnyX_done (by kernel_rfl) ?_ _
          go_wp2_with (fail)
          go_roundg m2
          case measure => omega
          case rel =>
            have hz9 := hgrow9.size
            simp only [World.size_alloc] at hz9
            have Yg := (Bx.alloc (Xg.out.mono hb8) _).grown hgrow9 neg
            have Yz := (Bx.alloc (Xz.out.mono hb8) _).grown hgrow9 nez
            have hB8 : Below w.heap.size w w8 := chain hB hb8 hBq
            refine ⟨j + 1, .slice (some ⟨gg, 0, none⟩) (t + j + 1) cap, zs ++ [x], by omega, by go_num, Yg.far (by omega), Yz.far (by omega), Yo.set rfl, ?_, ?_, by (try simp only [World.size_setCell]); omega, ?_⟩
            · show Own5 _ _ _ _ _
              exact (Own5.snoc HL.out hown9).far (by show w.heap.size + 1 + 1 < _; omega) _
            · show _ = _
              rw [← Nat.add_assoc, tab_succ, ← HZ.out, HX.out]
              unfold gsF
              rw [(divG hltj).1, (divG hltj).2]
            · refine Below.setCell ?_ (by show w.heap.size ≤ w.heap.size + 1 + 1; omega) _
              refine Below.grown (hB8.alloc hB8.size _) hgrow9 (by simp only [World.size_alloc]; omega) (fun q e => by have := (HVL.out _ e).1; omega)

end Go.Proofs.Ytncgccpkbneagaa
namespace Go.Proofs.Ytncgccpkbneagaa
open Go.RowKit RM
set_option linter.unusedVariables false
set_option linter.unusedSimpArgs false
attribute [local irreducible] World.setCell

open GM
theorem vg_nat {n : Nat} {g : C4.GateV} (h : C4.vgB (n : Int) g = true) : okG n g.f0.toNat g.f1.toNat g.f2.toNat ∧ g = ⟨(g.f0.toNat : Int), (g.f1.toNat : Int), (g.f2.toNat : Int)⟩ := by
  obtain ⟨m, kd, A, B, h1, rfl, hok⟩ := vg_ok h
  obtain rfl : n = m := by omega
  exact ⟨hok, rfl⟩
theorem gm_g {n D NN : Nat} {g : C4.GateV} {w : World} (hv : C4.vgB (n : Int) g = true) (hD : D = 2 ^ n) (hNN : NN = D * D) :
    Calls Try.prog 43 #[.int .i64 (n : Int), g.v] w fun ee w' => ∃ b : Nat, ee = .returned (mt (D : Int) (D : Int) (some ⟨b, 0, none⟩) NN NN true) ∧ Bk w' b 37 (gmt n D g) ∧ w.heap.size ≤ b ∧ Below w.heap.size w w' := by
  obtain ⟨hok, hg⟩ := vg_nat hv
  rw [hg] at hv
  have h := gm_any (w := w) hok hv hD hNN
  rw [hNN] at h ⊢
  rw [hg]
  exact h
theorem lg_g {n D NN : Nat} {g : C4.GateV} {w : World} (hv : C4.vgB (n : Int) g = true) (hD : D = 2 ^ n) (hNN : NN = D * D) :
    Calls Try.prog 95 #[.int .i64 (n : Int), g.v] w fun ee w' => ∃ b cq : Nat, ee = .returned (mv (D : Int) (D : Int) (some ⟨b, 0, none⟩) NN cq) ∧ Rd w' (some ⟨b, 0, none⟩) (gmt n D g) ∧ w.heap.size ≤ b ∧ Below w.heap.size w w' := by
  obtain ⟨hok, hg⟩ := vg_nat hv
  have h := lgate2 (w := w) hok hD hNN
  rw [hNN] at h ⊢
  rw [hg]
  exact h
/-- what the applied gates answer -/
def AG (w w' : World) (ee : Ending) (D C N h0 : Nat) (r : Option (List D5)) : Prop :=
  (r = none → ee = .returned (mt 0 0 none 0 0 false)) ∧ (∀ zs, r = some zs → ∃ h : Nat, ee = .returned (mt (D : Int) (C : Int) (some ⟨h, 0, none⟩) N N true) ∧ Bk w' h 37 zs ∧ (h = h0 ∨ w.heap.size ≤ h)) ∧ Below w.heap.size w w'

theorem kcB {B b o : Nat} {w w' : World} {v : Value} (hb : Below B w w') (h : b < B) (hc : w.cell? ⟨b, o, none⟩ = some v) : w'.cell? ⟨b, o, none⟩ = some v := (hb.cell (p := ⟨b, o, none⟩) h).trans hc
set_option maxRecDepth 100000 in
set_option maxHeartbeats 8000000 in
theorem ag_i {n D C N m c1 h0 : Nat} {A : Option Addr} {gs : List C4.GateV} {xs : List D5} {w : World} (hA : C4.Rd C4.gateE w A gs) (hm : gs.length = m) (hm4 : m ≤ 400) (hG : ∀ (i : Nat) (g : C4.GateV), gs[i]? = some g → C4.vgB (n : Int) g = true) (h1 : 1 ≤ n) (h5 : n ≤ 5) (hD : D = 2 ^ n) (hC : dimB (C : Int) = true) (hN : N = D * C) (hX : Bk w h0 37 xs) (hx : xs.length = N) (hok : okM (D : Int) (C : Int) N xs = true) :
    Calls Try.prog 104 #[C4.circuitV (n : Int) A m c1, mv (D : Int) (C : Int) (some ⟨h0, 0, none⟩) N N] w fun ee w' => AG w w' ee D C N h0 (apl n D C gs xs) := by
  obtain ⟨d2, d32, dw, dw2, dd⟩ := pow_dim h1 h5 hD
  have c32 : 1 ≤ C ∧ C ≤ 32 := by have := dimB_cases hC; omega
  have n10 : N ≤ 1024 := by rw [hN]; exact Nat.mul_le_mul d32 c32.2
  have hh0 : h0 < w.heap.size := hX.lt
  have HA := hid hA
  have HM := hid hm
  have HG := hid hG
  have HD := hid hD
  have HC := hid hC
  have EN := hid hN
  have HX := hid hX
  have HX2 := hid (And.intro hok hx)
  have DD := hid dd
  have hm5 : (m : Int) ≤ 400 := by omega
  clear hA hm hG hD hC hN hX hx hok dd
  go_enter Try.func104, Try.ntmps104
  go_wp2_with (fail)
  go_loopg [15] m (fun q s1 wr => ∃ (j h : Nat) (ys : List D5), j + q = m ∧ s1 = .int .i64 (j : Int) ∧ Hid (Bx wr (w.heap.size) 69 #[.int .i64 (n : Int), .slice A m c1]) ∧ Hid (Bx wr (w.heap.size + 1) 26 #[.int .i64 (D : Int), .int .i64 (C : Int), .slice (some ⟨h, 0, none⟩) N N]) ∧ Hid (Bx wr (w.heap.size + 1 + 1) 26 #[.int .i64 0, .int .i64 0, .slice none 0 0]) ∧ Hid (Bk wr h 37 ys) ∧ Hid (apl n D C (gs.take j) xs = some ys) ∧ Hid (okM (D : Int) (C : Int) N ys = true ∧ ys.length = N) ∧ Hid (h = h0 ∨ w.heap.size ≤ h) ∧ (h < w.heap.size ∨ w.heap.size + 1 + 1 < h) ∧ w.heap.size + 1 + 1 + 1 ≤ wr.heap.size ∧ Below w.heap.size w wr)
  case atStart =>
    exact ⟨0, h0, xs, by omega, rfl, (by show Bx _ _ _ _; (repeat' (first | (with_reducible assumption) | (refine Bx.new (by first | (with_reducible rfl) | (simp; done))) | (with_reducible refine Bx.alloc ?_ _) | (with_reducible refine Bx.drew ?_) | (with_reducible refine Bx.drewN ?_ _) | (with_reducible refine Bx.mono ?_ (by assumption)) | (with_reducible refine Bx.badly ?_ (by assumption) (by omega)) | (with_reducible refine Bx.far ?_ (by (try simp only [World.size_alloc, World.size_drew]); omega)) | (with_reducible refine Bx.set ?_ rfl) | (with_reducible refine Bx.grown ?_ (by assumption) (by assumption))))), (by show Bx _ _ _ _; (repeat' (first | (with_reducible assumption) | (refine Bx.new (by first | (with_reducible rfl) | (simp; done))) | (with_reducible refine Bx.alloc ?_ _) | (with_reducible refine Bx.drew ?_) | (with_reducible refine Bx.drewN ?_ _) | (with_reducible refine Bx.mono ?_ (by assumption)) | (with_reducible refine Bx.badly ?_ (by assumption) (by omega)) | (with_reducible refine Bx.far ?_ (by (try simp only [World.size_alloc, World.size_drew]); omega)) | (with_reducible refine Bx.set ?_ rfl) | (with_reducible refine Bx.grown ?_ (by assumption) (by assumption))))), (by show Bx _ _ _ _; (repeat' (first | (with_reducible assumption) | (refine Bx.new (by first | (with_reducible rfl) | (simp; done))) | (with_reducible refine Bx.alloc ?_ _) | (with_reducible refine Bx.drew ?_) | (with_reducible refine Bx.drewN ?_ _) | (with_reducible refine Bx.mono ?_ (by assumption)) | (with_reducible refine Bx.badly ?_ (by assumption) (by omega)) | (with_reducible refine Bx.far ?_ (by (try simp only [World.size_alloc, World.size_drew]); omega)) | (with_reducible refine Bx.set ?_ rfl) | (with_reducible refine Bx.grown ?_ (by assumption) (by assumption))))), by show Bk _ _ _ _; exact (((HX.out.alloc _).alloc _).alloc _), by show _ = _; rfl, HX2, Or.inl rfl, Or.inl hh0, by simp, by (repeat' (first | (with_reducible exact Below.refl _ _) | (with_reducible assumption) | (with_reducible refine Below.alloc ?_ ?_ _) | (with_reducible refine Below.drew ?_) | (with_reducible refine below_drewN ?_ _) | (with_reducible refine Below.setCell ?_ ?_ _) | (with_reducible refine chain ?_ (by assumption) ?_) | omega | (simp; done) | (simp; omega)))⟩
  case round =>
    obtain ⟨j, h, ys, hj, rfl, Xc, Xm, Xz, HB0, HAP, HY, HH, hh, hsz, hB⟩ := hrel
    have cc0 := Xc.out.c 0 rfl
    have cc1 := Xc.out.c 1 rfl
    have lc := Xc.out.lt
    have cm0 := Xm.out.c 0 rfl
    have cm1 := Xm.out.c 1 rfl
    have cm2 := Xm.out.c 2 rfl
    have lm := Xm.out.lt
    have fm := Xm.out.f
    have cz0 := Xz.out.c 0 rfl
    have cz1 := Xz.out.c 1 rfl
    have cz2 := Xz.out.c 2 rfl
    have lz := Xz.out.lt
    have fz := Xz.out.f
    have hBq := hB.size
    cases gk with
    | zero =>
      obtain rfl : j = m := by omega
      have e := HAP.out
      rw [List.take_of_length_le (by rw [HM.out]; exact Nat.le_refl _)] at e
      have HE := hid e
      clear e
      go_wp2_with (fail)
      refine bodyPost_ret (v := mt (D : Int) (C : Int) (some ⟨h, 0, none⟩) N N true) (by first | (simp [results, Try.results104, go_sem, *]; done) | (simp (disch := (first | omega | (simp; done) | (simp; omega))) [results, Try.results104, go_sem, *]; done) | (simp only [results, Try.results104]; go_simp; done)) rfl ⟨fun k => ?_, fun zs k => ?_, ?_⟩
      · rw [HE.out] at k; cases k
      · rw [HE.out] at k
        obtain rfl := Option.some.inj k
        refine ⟨h, rfl, ?_, HH.out⟩
        (repeat' (first | exact HB0.out | refine Bk.far ?_ (by show h ≠ w.heap.size + 1 + 1; omega) _))
      · (repeat' (first | (with_reducible exact Below.refl _ _) | (with_reducible assumption) | (with_reducible refine Below.alloc ?_ ?_ _) | (with_reducible refine Below.drew ?_) | (with_reducible refine below_drewN ?_ _) | (with_reducible refine Below.setCell ?_ ?_ _) | (with_reducible refine chain ?_ (by assumption) ?_) | omega | (simp; done) | (simp; omega)))
    | succ m9 =>
      have hlt : j < m := by omega
      have j1 : (j : Int) < (m : Int) := by omega
      obtain ⟨g, hg⟩ : ∃ g, gs[j]? = some g := ⟨_, List.getElem?_eq_getElem (by rw [HM.out]; exact hlt)⟩
      have hv := HG.out j g hg
      obtain ⟨ga, go, rfl, hga, q0, q1, q2⟩ := C4.Rd.atGate HA.out hg
      have z0 := kcB hB hga q0
      have z1 := kcB hB hga q1
      have z2 := kcB hB hga q2
      have HGJ := hid hg
      have HV := hid hv
      clear hg hv q0 q1 q2
      go_wp2_with (fail)
      refine (gm_g (D := D) (NN := D * D) HV.out HD.out rfl).mono ?_
      rintro ee w8 ⟨gb, rfl, hK8, hg8, hb8⟩
      have hz8 := hb8.size
      (try simp only [World.size_alloc] at hz8 hg8)
      have hb8' : Below wr.heap.size wr w8 := by (repeat' (first | (with_reducible exact Below.refl _ _) | (with_reducible assumption) | (with_reducible refine Below.alloc ?_ ?_ _) | (with_reducible refine Below.drew ?_) | (with_reducible refine below_drewN ?_ _) | (with_reducible refine Below.setCell ?_ ?_ _) | (with_reducible refine chain ?_ (by assumption) ?_) | omega | (simp; done) | (simp; omega)))
      have hB8 : Below w.heap.size w w8 := chain hB hb8' hBq
      have Yc := hid (Xc.out.mono hb8')
      have Ym := hid (Xm.out.mono hb8')
      have Yz := hid (Xz.out.mono hb8')
      have YB := hid (HB0.out.mono hb8')
      have HK8 := hid hK8
      clear hK8 hb8 Xc lc cc0 cc1 Xm lm cm0 cm1 cm2 Xz lz cz0 cz1 cz2 fm fz HB0 z0 z1 z2
      obtain ⟨Xc, Xm, Xz, HB0⟩ : _ ∧ _ ∧ _ ∧ _ := ⟨Yc, Ym, Yz, YB⟩
      clear Yc Ym Yz YB
      have cc0 := Xc.out.c 0 rfl
      have cc1 := Xc.out.c 1 rfl
      have lc := Xc.out.lt
      have cm0 := Xm.out.c 0 rfl
      have cm1 := Xm.out.c 1 rfl
      have cm2 := Xm.out.c 2 rfl
      have lm := Xm.out.lt
      have fm := Xm.out.f
      have cz0 := Xz.out.c 0 rfl
      have cz1 := Xz.out.c 1 rfl
      have cz2 := Xz.out.c 2 rfl
      have lz := Xz.out.lt
      have fz := Xz.out.f
      go_wp2_with (fail)
      refine (mu_i_t (ra := D) (ca := D) (cb := C) (g0 := gb) (h0 := h) (n := D * D) (m := N) (cp := D * D) (cp' := N) (N := N) (xs := gmt n D g) (ys := ys) ?_ ?_ (tab_len _ _) HY.out.2 (gmt_okM DD.out (vg_nat HV.out).1) HY.out.1 EN.out (Nat.le_refl _) (by have := Nat.mul_le_mul d32 d32; omega) (Nat.le_refl _) (by omega)).mono ?_
      · exact HK8.out.rd.mono (by (repeat' (first | (with_reducible exact Below.refl _ _) | (with_reducible assumption) | (with_reducible refine Below.alloc ?_ ?_ _) | (with_reducible refine Below.drew ?_) | (with_reducible refine below_drewN ?_ _) | (with_reducible refine Below.setCell ?_ ?_ _) | (with_reducible refine chain ?_ (by assumption) ?_) | omega | (simp; done) | (simp; omega))))
      · exact HB0.out.rd.mono (by (repeat' (first | (with_reducible exact Below.refl _ _) | (with_reducible assumption) | (with_reducible refine Below.alloc ?_ ?_ _) | (with_reducible refine Below.drew ?_) | (with_reducible refine below_drewN ?_ _) | (with_reducible refine Below.setCell ?_ ?_ _) | (with_reducible refine chain ?_ (by assumption) ?_) | omega | (simp; done) | (simp; omega))))
      rintro ee w9 ⟨r1, r2, hb9⟩
      have hz9 := hb9.size
      (try simp only [World.size_alloc] at hz9)
      have hb9' : Below w8.heap.size w8 w9 := chain ((Below.refl _ _).alloc (Nat.le_refl _) _) hb9 (by simp)
      have hB9 : Below w.heap.size w w9 := chain hB8 hb9' hB8.size
      have Yc := hid (Xc.out.mono hb9')
      have Ym := hid (Xm.out.mono hb9')
      have Yz := hid (Xz.out.mono hb9')
      clear Xc lc cc0 cc1 Xm lm cm0 cm1 cm2 Xz lz cz0 cz1 cz2 fm fz HB0
      obtain ⟨Xc, Xm, Xz⟩ : _ ∧ _ ∧ _ := ⟨Yc, Ym, Yz⟩
      clear Yc Ym Yz
      have cc0 := Xc.out.c 0 rfl
      have cc1 := Xc.out.c 1 rfl
      have lc := Xc.out.lt
      have cm0 := Xm.out.c 0 rfl
      have cm1 := Xm.out.c 1 rfl
      have cm2 := Xm.out.c 2 rfl
      have lm := Xm.out.lt
      have fm := Xm.out.f
      have cz0 := Xz.out.c 0 rfl
      have cz1 := Xz.out.c 1 rfl
      have cz2 := Xz.out.c 2 rfl
      have lz := Xz.out.lt
      have fz := Xz.out.f
      have hst := apl_take HGJ.out HAP.out
      have HST := hid hst
      clear hst
      cases hq : anyB N (mmG D C (gmt n D g) ys)
      · obtain ⟨g', rfl, hK9, hg9⟩ := r2 hq
        (try simp only [World.size_alloc] at hg9)
        have e : stB n D C g ys = false := by unfold stB; rw [← EN.out]; exact hq
        have HE := hid e
        have HK9 := hid hK9
        have ef : tab N (mmF D C (gmt n D g) ys) = stF n D C g ys := by unfold stF; rw [EN.out]
        have EF9 := hid ef
        have hl9 := hK9.lt
        clear r1 r2 hq hK9 e ef hb9
        go_wp2_with (fail)
        go_roundg m9
        case measure => omega
        case rel =>
          have R1 := Xc.out
          have R2 := Xm.out
          have R3 := Xz.out
          refine ⟨j + 1, g', stF n D C g ys, by omega, by go_num, ?_, ?_, ?_, ?_, ?_, ?_, Or.inr (by omega), Or.inr (by omega), by (try simp only [World.size_alloc, World.size_setCell]); omega, ?_⟩
          · show Bx _ _ _ _
            (repeat' (first | (with_reducible exact R1) | (with_reducible refine Bx.far ?_ (by omega)) | (with_reducible refine Bx.alloc ?_ _)))
          · show Bx _ _ _ _
            exact Bx.alloc (Bx.set (i := 2) (u := .slice (some ⟨g', 0, none⟩) N N) (Bx.set (i := 1) (u := .int .i64 (C : Int)) (Bx.set (i := 0) (u := .int .i64 (D : Int)) R2 rfl) rfl) rfl) _
          · show Bx _ _ _ _
            (repeat' (first | (with_reducible exact R3) | (with_reducible refine Bx.far ?_ (by omega)) | (with_reducible refine Bx.alloc ?_ _)))
          · show Bk _ _ _ _
            rw [← EF9.out]
            (repeat' (first | exact HK9.out | refine Bk.alloc ?_ _ | refine Bk.far ?_ (by show g' ≠ w.heap.size + 1; omega) _))
          · show _ = _
            rw [HST.out, HE.out]; rfl
          · show _ ∧ _
            rw [EN.out]
            exact ⟨stF_okM DD.out HC.out (vg_nat HV.out).1 (okM_iff.1 HY.out.1).2.2.2, stF_len⟩
          · (repeat' (first | (with_reducible assumption) | refine Below.setCell ?_ (by show w.heap.size ≤ w.heap.size + 1; omega) _ | refine Below.alloc ?_ (by (try simp only [World.size_setCell]); omega) _))
      · obtain rfl := r1 hq
        have e : stB n D C g ys = true := by unfold stB; rw [← EN.out]; exact hq
        have e2 : apl n D C gs xs = none := by
          refine apl_none (j := j + 1) ?_
          rw [HST.out, e]; rfl
        have HE := hid e2
        clear r1 r2 hq e e2 hb9
        go_wp2_with (fail)
        refine bodyPost_ret (v := mt 0 0 none 0 0 false) (by first | (simp [results, Try.results104, go_sem, *]; done) | (simp (disch := (first | omega | (simp; done) | (simp; omega))) [results, Try.results104, go_sem, *]; done) | (simp only [results, Try.results104]; go_simp; done)) rfl ⟨fun _ => rfl, fun zs k => ?_, ?_⟩
        · rw [HE.out] at k; cases k
        · (repeat' (first | (with_reducible exact Below.refl _ _) | (with_reducible assumption) | (with_reducible refine Below.alloc ?_ ?_ _) | (with_reducible refine Below.drew ?_) | (with_reducible refine below_drewN ?_ _) | (with_reducible refine Below.setCell ?_ ?_ _) | (with_reducible refine chain ?_ (by assumption) ?_) | omega | (simp; done) | (simp; omega)))

end Go.Proofs.Ytncgccpkbneagaa
namespace Go.Proofs.Ytncgccpkbneagaa
open Go.RowKit RM
set_option linter.unusedVariables false
set_option linter.unusedSimpArgs false
attribute [local irreducible] World.setCell

open GM
theorem Rd.nz {W : World} {A : Option Addr} {xs : List D5} (h : Rd W A xs) (hn : 0 < xs.length) : ∃ g o, A = some ⟨g, o, none⟩ ∧ g < W.heap.size := by
  obtain ⟨x, hx⟩ : ∃ x, xs[0]? = some x := ⟨_, List.getElem?_eq_getElem hn⟩
  obtain ⟨g, o, e, hc⟩ := h 0 x hx
  exact ⟨g, o, e, hc.lt⟩
theorem Rd.bad {W W' : World} {g o gc : Nat} {u : Value} {xs : List D5} (h : Rd W (some ⟨g, o, none⟩) xs) (hb : Below W.heap.size (W.setCell ⟨gc, 0, none⟩ u) W') (hne : g ≠ gc) : Rd W' (some ⟨g, o, none⟩) xs := by
  intro k x hx
  obtain ⟨g1, o1, e1, hc⟩ := h k x hx
  simp only [Option.some.injEq, Addr.mk.injEq, and_true] at e1
  obtain ⟨rfl, rfl⟩ := e1
  exact ⟨g, o, rfl, hc.at_ ((hb.block g hc.lt).trans (Below.heap_setCell _ _ _ _ (by show g ≠ gc; exact hne)))⟩
/-- what the model's applied gates answer -/
def RN (w w' : World) (ee : Ending) (D C N h0 gc : Nat) (r : Option (List D5)) : Prop :=
  ∃ (z : Bool) (zs : List D5) (h o cq : Nat), ee = .returned (mv (D : Int) (C : Int) (some ⟨h, o, none⟩) N cq) ∧ zs.length = N ∧ (z = false → r = some zs) ∧ (z = true → r = none) ∧ Rd w' (some ⟨h, o, none⟩) zs ∧ (h = h0 ∨ w.heap.size ≤ h) ∧ Below w.heap.size (w.setCell ⟨gc, 0, none⟩ (.bool z)) w'

set_option maxRecDepth 100000 in
set_option maxHeartbeats 8000000 in
theorem lrun {n D C N m c1 h0 o0 cp0 gc : Nat} {A : Option Addr} {gs : List C4.GateV} {xs : List D5} {w : World} (hA : C4.Rd C4.gateE w A gs) (hAg : ∀ a, A = some a → a.block ≠ gc) (hm : gs.length = m) (hm4 : m ≤ 400) (hG : ∀ (i : Nat) (g : C4.GateV), gs[i]? = some g → C4.vgB (n : Int) g = true) (h1 : 1 ≤ n) (h5 : n ≤ 5) (hD : D = 2 ^ n) (hC : dimB (C : Int) = true) (hN : N = D * C) (hX : Rd w (some ⟨h0, o0, none⟩) xs) (hh : h0 ≠ gc) (hhw : h0 < w.heap.size) (hx : xs.length = N) (hok : okM (D : Int) (C : Int) N xs = true) (hc0 : Bx w gc 99 #[.bool false]) :
    Calls Try.prog 101 #[.pointer (some ⟨gc, 0, none⟩), C4.circuitV (n : Int) A m c1, mv (D : Int) (C : Int) (some ⟨h0, o0, none⟩) N cp0] w fun ee w' => RN w w' ee D C N h0 gc (apl n D C gs xs) := by
  obtain ⟨d2, d32, dw, dw2, dd⟩ := pow_dim h1 h5 hD
  have c32 : 1 ≤ C ∧ C ≤ 32 := by have := dimB_cases hC; omega
  have n10 : N ≤ 1024 := by rw [hN]; exact Nat.mul_le_mul d32 c32.2
  have nz : 0 < N := by rw [hN]; exact Nat.mul_pos (Nat.lt_of_lt_of_le Nat.two_pos d2) c32.1
  have hgc := hc0.lt
  have HA := hid hA
  have HAG := hid hAg
  have HM := hid hm
  have HG := hid hG
  have HD := hid hD
  have HC := hid hC
  have EN := hid hN
  have HX := hid hX
  have HX2 := hid (And.intro hok hx)
  have DD := hid dd
  have XC := hid hc0
  have hm5 : (m : Int) ≤ 400 := by omega
  clear hA hAg hm hG hD hC hN hX hx hok dd hc0
  go_enter Try.func101, Try.ntmps101
  go_wp2_with (fail)
  go_loopg [12] m (fun q s1 wr => ∃ (j h o cq : Nat) (z : Bool) (ys : List D5), j + q = m ∧ s1 = .int .i64 (j : Int) ∧ Hid (Bx wr (w.heap.size) 69 #[.int .i64 (n : Int), .slice A m c1]) ∧ Hid (Bx wr (w.heap.size + 1) 26 #[.int .i64 (D : Int), .int .i64 (C : Int), .slice (some ⟨h, o, none⟩) N cq]) ∧ Hid (Bx wr (w.heap.size + 1 + 1) 26 #[.int .i64 0, .int .i64 0, .slice none 0 0]) ∧ Hid (Bx wr (gc) 99 #[.bool z]) ∧ Hid (Rd wr (some ⟨h, o, none⟩) ys) ∧ Hid (ys.length = N) ∧ Hid (z = false → apl n D C (gs.take j) xs = some ys ∧ okM (D : Int) (C : Int) N ys = true) ∧ Hid (z = true → apl n D C gs xs = none) ∧ Hid (h = h0 ∨ w.heap.size ≤ h) ∧ h ≠ gc ∧ (h < w.heap.size ∨ w.heap.size + 1 + 1 < h) ∧ w.heap.size + 1 + 1 + 1 ≤ wr.heap.size ∧ Hid (Below w.heap.size (w.setCell ⟨gc, 0, none⟩ (.bool z)) wr))
  case atStart =>
    have RC := XC.out
    have hb0 : Below w.heap.size (w.setCell ⟨gc, 0, none⟩ (.bool false)) w := bad_0 (RC.c 0 rfl)
    refine ⟨0, h0, o0, cp0, false, xs, by omega, rfl, ?_, ?_, ?_, ?_, ?_, HX2.out.2, (fun _ => ⟨rfl, HX2.out.1⟩), (fun k => by cases k), Or.inl rfl, hh, Or.inl hhw, by simp, ?_⟩
    · show Bx _ _ _ _; exact ((Bx.new rfl).alloc _).alloc _
    · show Bx _ _ _ _; exact (Bx.new (by simp)).alloc _
    · show Bx _ _ _ _; exact Bx.new (by simp)
    · show Bx _ _ _ _; exact ((RC.alloc _).alloc _).alloc _
    · show Rd _ _ _
      exact HX.out.mono (by (repeat' (first | (with_reducible exact Below.refl _ _) | (with_reducible assumption) | (with_reducible refine Below.alloc ?_ ?_ _) | (with_reducible refine Below.drew ?_) | (with_reducible refine below_drewN ?_ _) | (with_reducible refine Below.setCell ?_ ?_ _) | (with_reducible refine chain ?_ (by assumption) ?_) | omega | (simp; done) | (simp; omega))))
    · show Below _ _ _
      exact ((hb0.alloc (Nat.le_refl _) _).alloc (by simp) _).alloc (by simp; omega) _
  case round =>
    obtain ⟨j, h, o, cq, z, ys, hj, rfl, Xc, Xm, Xz, Xf, HR, HL, HZF, HZT, HH, hhc, hhb, hsz, HB⟩ := hrel
    have cc0 := Xc.out.c 0 rfl
    have cc1 := Xc.out.c 1 rfl
    have lc := Xc.out.lt
    have cm0 := Xm.out.c 0 rfl
    have cm1 := Xm.out.c 1 rfl
    have cm2 := Xm.out.c 2 rfl
    have lm := Xm.out.lt
    have fm := Xm.out.f
    have cz0 := Xz.out.c 0 rfl
    have cz1 := Xz.out.c 1 rfl
    have cz2 := Xz.out.c 2 rfl
    have lz := Xz.out.lt
    have fz := Xz.out.f
    have cf0 := Xf.out.c 0 rfl
    have lf := Xf.out.lt
    have ff := Xf.out.f
    have hBq := HB.out.size
    rw [World.size_setCell] at hBq
    cases gk with
    | zero =>
      obtain rfl : j = m := by omega
      go_wp2_with (fail)
      refine bodyPost_ret (v := mv (D : Int) (C : Int) (some ⟨h, o, none⟩) N cq) (by first | (simp [results, Try.results101, go_sem, *]; done) | (simp (disch := (first | omega | (simp; done) | (simp; omega))) [results, Try.results101, go_sem, *]; done) | (simp only [results, Try.results101]; go_simp; done)) rfl ⟨z, ys, h, o, cq, rfl, HL.out, fun k => ?_, fun k => ?_, ?_, HH.out, ?_⟩
      · obtain ⟨e, -⟩ := HZF.out k
        rw [List.take_of_length_le (by rw [HM.out]; exact Nat.le_refl _)] at e
        exact e
      · exact HZT.out k
      · (repeat' (first | exact HR.out | refine Rd.far ?_ (fun a ha => by obtain rfl := Option.some.inj ha; show h ≠ w.heap.size + 1 + 1; omega) _))
      · have hB := HB.out
        (repeat' (first | (with_reducible exact Below.refl _ _) | (with_reducible assumption) | (with_reducible refine Below.alloc ?_ ?_ _) | (with_reducible refine Below.drew ?_) | (with_reducible refine below_drewN ?_ _) | (with_reducible refine Below.setCell ?_ ?_ _) | (with_reducible refine chain ?_ (by assumption) ?_) | omega | (simp; done) | (simp; omega)))
    | succ m9 =>
      have hlt : j < m := by omega
      have j1 : (j : Int) < (m : Int) := by omega
      obtain ⟨g, hg⟩ : ∃ g, gs[j]? = some g := ⟨_, List.getElem?_eq_getElem (by rw [HM.out]; exact hlt)⟩
      have hv := HG.out j g hg
      obtain ⟨ga, go, rfl, hga, q0, q1, q2⟩ := C4.Rd.atGate HA.out hg
      have hgg : ga ≠ gc := HAG.out _ rfl
      have z0 := kbad HB.out hgg.symm q0
      have z1 := kbad HB.out hgg.symm q1
      have z2 := kbad HB.out hgg.symm q2
      have HGJ := hid hg
      have HV := hid hv
      have lga : ga < wr.heap.size := by omega
      clear hg hv q0 q1 q2
      cases z
      · have HZ0 : Hid (apl n D C (gs.take j) xs = some ys ∧ okM (D : Int) (C : Int) N ys = true) := hid (HZF.out rfl)
        clear HZF HZT
        go_upto_region 5 with (fail)
        obtain ⟨W, hW⟩ : ∃ W : World, W = wr.alloc (.cells #[.int .i64 g.f0, .int .i64 g.f1, .int .i64 g.f2] 59) := ⟨_, rfl⟩
        have hbW : Below wr.heap.size wr W := by rw [hW]; exact (Below.refl _ _).alloc (Nat.le_refl _) _
        have Xg : Bx W wr.heap.size 59 #[.int .i64 g.f0, .int .i64 g.f1, .int .i64 g.f2] := by rw [hW]; exact Bx.new rfl
        have hzW : wr.heap.size < W.heap.size := by rw [hW]; simp
        rw [← hW]
        clear hW z0 z1 z2
        have Yc := hid (Xc.out.mono hbW)
        have Ym := hid (Xm.out.mono hbW)
        have Yz := hid (Xz.out.mono hbW)
        have Yf := hid (Xf.out.mono hbW)
        have YR := hid (HR.out.mono hbW)
        have HBW := hid (chain HB.out hbW (by omega))
        clear Xc lc cc0 cc1 Xm lm cm0 cm1 cm2 fm Xz lz cz0 cz1 cz2 fz Xf lf cf0 ff HR HB
        obtain ⟨Xc, Xm, Xz, Xf, HR⟩ : _ ∧ _ ∧ _ ∧ _ ∧ _ := ⟨Yc, Ym, Yz, Yf, YR⟩
        clear Yc Ym Yz Yf YR
        have cc0 := Xc.out.c 0 rfl
        have cc1 := Xc.out.c 1 rfl
        have lc := Xc.out.lt
        have cm0 := Xm.out.c 0 rfl
        have cm1 := Xm.out.c 1 rfl
        have cm2 := Xm.out.c 2 rfl
        have lm := Xm.out.lt
        have fm := Xm.out.f
        have cz0 := Xz.out.c 0 rfl
        have cz1 := Xz.out.c 1 rfl
        have cz2 := Xz.out.c 2 rfl
        have lz := Xz.out.lt
        have fz := Xz.out.f
        have lf := Xf.out.lt
        have cf0 := Xf.out.c 0 rfl
        have g0 := Xg.c 0 rfl
        have g1 := Xg.c 1 rfl
        have g2 := Xg.c 2 rfl
        have ycc0 : W.drew.cell? ⟨w.heap.size, 0, none⟩ = some (.int .i64 (n : Int)) := cc0
        have ycc1 : W.drew.cell? ⟨w.heap.size, 1, none⟩ = some (.slice (some ⟨ga, go, none⟩) m c1) := cc1
        have yg0 : W.drew.cell? ⟨wr.heap.size, 0, none⟩ = some (.int .i64 g.f0) := g0
        have yg1 : W.drew.cell? ⟨wr.heap.size, 1, none⟩ = some (.int .i64 g.f1) := g1
        have yg2 : W.drew.cell? ⟨wr.heap.size, 2, none⟩ = some (.int .i64 g.f2) := g2
        have ycm0 : W.drew.cell? ⟨w.heap.size + 1, 0, none⟩ = some (.int .i64 (D : Int)) := cm0
        have ycm1 : W.drew.cell? ⟨w.heap.size + 1, 1, none⟩ = some (.int .i64 (C : Int)) := cm1
        have ycm2 : W.drew.cell? ⟨w.heap.size + 1, 2, none⟩ = some (.slice (some ⟨h, o, none⟩) N cq) := cm2
        refine wp_region_x (fun w' => w'.cell? ⟨w.heap.size, 0, none⟩ = some (.int .i64 (n : Int)) ∧ w'.cell? ⟨w.heap.size, 1, none⟩ = some (.slice (some ⟨ga, go, none⟩) m c1) ∧ w'.cell? ⟨wr.heap.size, 0, none⟩ = some (.int .i64 g.f0) ∧ w'.cell? ⟨wr.heap.size, 1, none⟩ = some (.int .i64 g.f1) ∧ w'.cell? ⟨wr.heap.size, 2, none⟩ = some (.int .i64 g.f2) ∧ w'.cell? ⟨w.heap.size + 1, 0, none⟩ = some (.int .i64 (D : Int)) ∧ w'.cell? ⟨w.heap.size + 1, 1, none⟩ = some (.int .i64 (C : Int)) ∧ w'.cell? ⟨w.heap.size + 1, 2, none⟩ = some (.slice (some ⟨h, o, none⟩) N cq)) 7 (by kernel_rfl) ⟨ycc0, ycc1, yg0, yg1, yg2, ycm0, ycm1, ycm2⟩ (fun hS0 => ?_)
        refine wpAnyX_take (i := 0) (oi := _) (v := ?_) rfl (by kernel_rfl) (by kernel_rfl) (by kernel_rfl) (by kernel_rfl) (fun _ _ _ h => h) (Or.inl ⟨by rfl, ?_⟩) hS0 ?_
        rotate_left 1
        · (intro w hSw; (try dsimp only at hSw); go_simp; (try with_reducible rfl))
        try simp only [Act.put, List.setIfInBounds_toArray, List.set_cons_zero, List.set_cons_succ]
        refine wpAnyX_take (i := 1) (oi := _) (v := ?_) rfl (by kernel_rfl) (by kernel_rfl) (by kernel_rfl) (by kernel_rfl) (fun _ _ _ h => h) (Or.inl ⟨by rfl, ?_⟩) hS0 ?_
        rotate_left 1
        · (intro w hSw; (try dsimp only at hSw); go_simp; (try with_reducible rfl))
        try simp only [Act.put, List.setIfInBounds_toArray, List.set_cons_zero, List.set_cons_succ]
        refine wpAnyX_take (i := 2) (oi := _) (v := ?_) rfl (by kernel_rfl) (by kernel_rfl) (by kernel_rfl) (by kernel_rfl) (fun _ _ _ h => h) (Or.inl ⟨by rfl, ?_⟩) hS0 ?_
        rotate_left 1
        · (intro w hSw; (try dsimp only at hSw); go_simp; (try with_reducible rfl))
        try simp only [Act.put, List.setIfInBounds_toArray, List.set_cons_zero, List.set_cons_succ]
        refine wpAnyX_take (i := 3) (oi := _) (v := ?_) rfl (by kernel_rfl) (by kernel_rfl) (by kernel_rfl) (by kernel_rfl) (fun _ _ _ h => h) (Or.inl ⟨by rfl, ?_⟩) hS0 ?_
        rotate_left 1
        · (intro w hSw; (try dsimp only at hSw); go_simp; (try with_reducible rfl))
        try simp only [Act.put, List.setIfInBounds_toArray, List.set_cons_zero, List.set_cons_succ]
        refine wpAnyX_take (i := 5) (oi := _) (v := ?_) rfl (by kernel_rfl) (by kernel_rfl) (by kernel_rfl) (by kernel_rfl) (fun _ _ _ h => h) (Or.inl ⟨by rfl, ?_⟩) hS0 ?_
        rotate_left 1
        · (intro w hSw; (try dsimp only at hSw); go_simp; (try with_reducible rfl))
        try simp only [Act.put, List.setIfInBounds_toArray, List.set_cons_zero, List.set_cons_succ]
        refine wpAnyX_one (i := 4) (o := _) rfl (by kernel_rfl) (fun K hK => ?_)
        go_simp
        refine (lg_g (D := D) (NN := D * D) HV.out HD.out rfl).mono ?_
        rintro ee w8 ⟨gb, cq8, rfl, hR8, hg8, hb80⟩
        have hb8 := undrewK hb80
        have hz8 := hb8.size
        (try simp only [World.size_drew] at hg8)
        obtain ⟨gb', ob', eb, lgb⟩ := hR8.nz (by rw [gmt, tab_len]; exact Nat.mul_pos (by omega) (by omega))
        obtain ⟨rfl, rfl⟩ : gb = gb' ∧ 0 = ob' := by simpa using eb
        clear eb
        refine hK.out _ _ (fun _ => ?_) (fun hS1 => ?_)
        · exact ⟨kc hb80 (hS0.1), kc hb80 (hS0.2.1), kc hb80 (hS0.2.2.1), kc hb80 (hS0.2.2.2.1), kc hb80 (hS0.2.2.2.2.1), kc hb80 (hS0.2.2.2.2.2.1), kc hb80 (hS0.2.2.2.2.2.2.1), kc hb80 (hS0.2.2.2.2.2.2.2)⟩
        clear hK K
        have hS1 := hS1 (by decide)
        try simp only [Act.put, List.setIfInBounds_toArray, List.set_cons_zero, List.set_cons_succ]
        refine wpAnyX_one (i := 6) (o := _) rfl (by kernel_rfl) (fun K hK => ?_)
        go_simp
        refine (mumo (ra := D) (ca := D) (cb := C) (g0 := gb) (h0 := h) (o0 := o) (n := D * D) (m := N) (N := N) (gc := gc) (xs := gmt n D g) (ys := ys) hR8 (HR.out.mono hb8) (by rw [gmt, tab_len]) HL.out (gmt_okM DD.out (vg_nat HV.out).1) HZ0.out.2 EN.out (Xf.out.mono hb8) (by omega) hhc).mono ?_
        rintro ee w9 ⟨z', zs, Bo, cq', rfl, hS, hRd, hBa, hb9⟩
        have hz9 := bad_size hb9
        obtain ⟨h', o', rfl, lh'⟩ := hRd.nz (by rw [hS.1]; exact nz)
        have hh' : w8.heap.size ≤ h' := hBa _ rfl
        refine hK.out _ _ (fun _ => ?_) (fun hS2 => ?_)
        · exact ⟨kbad hb9 (by omega) (hS1.1), kbad hb9 (by omega) (hS1.2.1), kbad hb9 (by omega) (hS1.2.2.1), kbad hb9 (by omega) (hS1.2.2.2.1), kbad hb9 (by omega) (hS1.2.2.2.2.1), kbad hb9 (by omega) (hS1.2.2.2.2.2.1), kbad hb9 (by omega) (hS1.2.2.2.2.2.2.1), kbad hb9 (by omega) (hS1.2.2.2.2.2.2.2)⟩
        clear hK K
        have hS2 := hS2 (by decide)
        try simp only [Act.put, List.setIfInBounds_toArray, List.set_cons_zero, List.set_cons_succ]
        refine wpAnyX_one (i := 7) (o := _) rfl (by kernel_rfl) (fun K hK => ?_)
        have Xm9 := (Xm.out.mono hb8).badly hb9 (by omega)
        have e0 := Xm9.c 0 rfl
        have e1 := Xm9.c 1 rfl
        have e2 := Xm9.c 2 rfl
        have ef := Xm9.f
        have el := Xm9.lt
        go_simp
        refine hK.out _ _ (fun h => absurd rfl h) (fun _ => ?_)
        clear hK K
        try simp only [Act.put, List.setIfInBounds_toArray, List.set_cons_zero, List.set_cons_succ]
        refine wpAnyX_done (by kernel_rfl) ?_ _
        have hst := apl_take HGJ.out HZ0.out.1
        have HST := hid hst
        have HS := hid hS
        have HRd := hid hRd
        have hw8 : Below w.heap.size (w.setCell ⟨gc, 0, none⟩ (.bool false)) w8 := chain HBW.out hb8 (by have := HBW.out.size; rw [World.size_setCell] at this; exact this)
        have hw9 := bad_step hw8 hgc hb9 (by omega)
        have HW9 := hid hw9
        have R1 := (Xc.out.mono hb8).badly hb9 (by omega)
        have R3 := (Xz.out.mono hb8).badly hb9 (by omega)
        have R4 := (Xf.out.mono hb8).bad hb9
        clear hst hS hRd hBa hw8 hw9
        go_wp2_with (fail)
        go_roundg m9
        case measure => omega
        case rel =>
          refine ⟨j + 1, h', o', cq', z', zs, by omega, by go_num, ?_, ?_, ?_, ?_, ?_, HS.out.1, ?_, ?_, Or.inr (by omega), by omega, Or.inr (by omega), by (try simp only [World.size_setCell]); omega, ?_⟩
          · show Bx _ _ _ _
            (repeat' (first | (with_reducible exact R1) | (with_reducible refine Bx.far ?_ (by omega))))
          · show Bx _ _ _ _
            exact Bx.set (i := 2) (u := .slice (some ⟨h', o', none⟩) N cq') (Bx.set (i := 1) (u := .int .i64 (C : Int)) (Bx.set (i := 0) (u := .int .i64 (D : Int)) Xm9 rfl) rfl) rfl
          · show Bx _ _ _ _
            (repeat' (first | (with_reducible exact R3) | (with_reducible refine Bx.far ?_ (by omega))))
          · show Bx _ _ _ _
            (repeat' (first | (with_reducible exact R4) | (with_reducible refine Bx.far ?_ (by omega))))
          · show Rd _ _ _
            (repeat' (first | exact HRd.out | refine Rd.far ?_ (fun a ha => by obtain rfl := Option.some.inj ha; show h' ≠ w.heap.size + 1; omega) _))
          · show _ → _
            intro k
            have e : stB n D C g ys = false := by unfold stB; rw [← EN.out, ← HS.out.2.1]; exact k
            rw [HST.out, e, HS.out.2.2 k, EN.out]
            exact ⟨rfl, stF_okM DD.out HC.out (vg_nat HV.out).1 (okM_iff.1 HZ0.out.2).2.2.2⟩
          · show _ → _
            intro k
            have e : stB n D C g ys = true := by unfold stB; rw [← EN.out, ← HS.out.2.1]; exact k
            refine apl_none (j := j + 1) ?_
            rw [HST.out, e]; rfl
          · show Below _ _ _
            have hB9 := HW9.out
            (repeat' (first | (with_reducible assumption) | refine Below.setCell ?_ (by show w.heap.size ≤ w.heap.size + 1; omega) _))
      · have HZ1 : Hid (apl n D C gs xs = none) := hid (HZT.out rfl)
        clear HZF HZT
        go_wp2_with (fail)
        go_roundg m9
        case measure => omega
        case rel =>
          have R1 := Xc.out
          have R2 := Xm.out
          have R3 := Xz.out
          have R4 := Xf.out
          refine ⟨j + 1, h, o, cq, true, ys, by omega, by go_num, ?_, ?_, ?_, ?_, ?_, HL.out, (fun k => by cases k), (fun _ => HZ1.out), HH.out, hhc, hhb, by simp; omega, ?_⟩
          · show Bx _ _ _ _; exact R1.alloc _
          · show Bx _ _ _ _; exact R2.alloc _
          · show Bx _ _ _ _; exact R3.alloc _
          · show Bx _ _ _ _; exact R4.alloc _
          · show Rd _ _ _
            exact HR.out.mono ((Below.refl _ _).alloc (Nat.le_refl _) _)
          · show Below _ _ _
            exact HB.out.alloc (by omega) _

end Go.Proofs.Ytncgccpkbneagaa
namespace Go.Proofs.Ytncgccpkbneagaa
open Go.RowKit RM
set_option linter.unusedVariables false
set_option linter.unusedSimpArgs false
attribute [local irreducible] World.setCell

open GM
theorem okC_nat {a0 : Int} {m : Nat} {gs : List C4.GateV} (h : C4.okC a0 m gs = true) : ∃ n : Nat, a0 = (n : Int) ∧ 1 ≤ n ∧ n ≤ 5 ∧ m ≤ 400 ∧ ∀ (i : Nat) (g : C4.GateV), gs[i]? = some g → C4.vgB (n : Int) g = true := by
  obtain ⟨h1, h2, h3, h4⟩ := C4.okC_iff.1 h
  obtain ⟨n, rfl⟩ : ∃ n : Nat, a0 = (n : Int) := ⟨a0.toNat, by omega⟩
  refine ⟨n, rfl, by omega, by omega, h3, fun i g hg => ?_⟩
  unfold C4.vgB
  rw [C4.inB_t h1 h2, Bool.true_and]
  exact h4 i g hg
end Go.Proofs.Ytncgccpkbneagaa
namespace Go.Proofs.Ytncgccpkbneagaa
open Go.RowKit RM
set_option linter.unusedVariables false
set_option linter.unusedSimpArgs false
attribute [local irreducible] World.setCell

open GM
end Go.Proofs.Ytncgccpkbneagaa
namespace Go.Proofs.Ytncgccpkbneagaa
open Go.RowKit RM
set_option linter.unusedVariables false
set_option linter.unusedSimpArgs false
attribute [local irreducible] World.setCell

open GM
theorem apl_len {n D C : Nat} : ∀ (gs : List C4.GateV) (xs ys : List D5), apl n D C gs xs = some ys → xs.length = D * C → ys.length = D * C := by
  intro gs
  induction gs with
  | nil => intro xs ys h hx; obtain rfl := Option.some.inj h; exact hx
  | cons g gs ih =>
    intro xs ys h hx
    have h2 : (if stB n D C g xs then none else apl n D C gs (stF n D C g xs)) = some ys := h
    split at h2
    · cases h2
    · exact ih _ _ h2 stF_len

end Go.Proofs.Ytncgccpkbneagaa
namespace Go.Proofs.Ytncgccpkbneagaa
open Go.RowKit RM
set_option linter.unusedVariables false
set_option linter.unusedSimpArgs false
attribute [local irreducible] World.setCell

open GM
/-- a basis vector -/
def basL (D s : Nat) : List D5 := tab D (colF D s (tab (D * D) (unitP D D)))
theorem basL_eq {D s : Nat} (hs : s < D) : (List.replicate D z5).set s (omP 0) = basL D s := by
  rw [tab_repl, tab_set hs]
  refine tab_congr (fun q hq => ?_)
  have hlt : q * D + s < D * D := by
    have h1 : q * D + D ≤ D * D := by rw [← Nat.succ_mul]; exact Nat.mul_le_mul_right D hq
    omega
  show _ = (tab (D * D) (unitP D D)).getD (q * D + s) z5
  rw [List.getD_eq_getElem?_getD, tab_get hlt]
  show _ = unitP D D (q * D + s)
  unfold unitP
  by_cases e : q = s
  · subst e
    rw [if_pos rfl, if_pos (anyB_of hq (by simp))]
    rfl
  · rw [if_neg e, if_neg]
    intro h
    obtain ⟨i, hi, h2⟩ := anyB_ex h
    have h3 : q * D + s = i * D + i := of_decide_eq_true h2
    have d1 := divG (Q := D) (i := q) (r := s) hs
    have d2 := divG (Q := D) (i := i) (r := i) hi
    rw [h3] at d1
    exact e (by omega)
theorem basL_len {D s : Nat} : (basL D s).length = D := tab_len _ _
theorem basL_ok {D s : Nat} (hD : dimB (D : Int) = true) : okM (D : Int) ((1 : Nat) : Int) D (basL D s) = true := okM_tab hD (by decide) (Nat.mul_one D).symm (fun q => getD_ok (unit_ok D) _)
/-- a state behind a circuit's gates -/
def stA (n s : Nat) (gs : List C4.GateV) : Option (List D5) := apl n (2 ^ n) 1 gs (basL (2 ^ n) s)

set_option maxRecDepth 100000 in
set_option maxHeartbeats 2000000 in
theorem ibs_t {n D : Nat} {s : Int} {w : World} (hn : 1 ≤ n) (h5 : n ≤ 5) (hD : D = 2 ^ n) (h1 : 0 ≤ s) (h2 : s < (D : Int)) :
    Calls Try.prog 108 #[.int .i64 (n : Int), .int .i64 s] w fun ee w' => ee = .returned (.bool true) ∧ w = w' := by
  obtain ⟨d2, d32, dw, dw2, -⟩ := pow_dim hn h5 hD
  have n5 : (n : Int) ≤ 5 := by omega
  have q1 : decide (0 ≤ s) = true := by simp; omega
  have q2 : decide (s < (D : Int)) = true := by simp; omega
  clear hD
  go_enter Try.func108, Try.ntmps108
  go_wp2_with (fail)
  go_ret
  exact ⟨rfl, rfl⟩

set_option maxRecDepth 100000 in
set_option maxHeartbeats 2000000 in
theorem ibs_l {n D : Nat} {s : Int} {w : World} (hn : 1 ≤ n) (h5 : n ≤ 5) (hD : D = 2 ^ n) (h1 : s < 0) :
    Calls Try.prog 108 #[.int .i64 (n : Int), .int .i64 s] w fun ee w' => ee = .returned (.bool false) ∧ w = w' := by
  obtain ⟨d2, d32, dw, dw2, -⟩ := pow_dim hn h5 hD
  have n5 : (n : Int) ≤ 5 := by omega
  have q1 : decide (0 ≤ s) = false := by simp; omega
  clear hD
  go_enter Try.func108, Try.ntmps108
  go_wp2_with (fail)
  go_ret
  exact ⟨rfl, rfl⟩

set_option maxRecDepth 100000 in
set_option maxHeartbeats 2000000 in
theorem ibs_h {n D : Nat} {s : Int} {w : World} (hn : 1 ≤ n) (h5 : n ≤ 5) (hD : D = 2 ^ n) (h1 : 0 ≤ s) (h2 : (D : Int) ≤ s) :
    Calls Try.prog 108 #[.int .i64 (n : Int), .int .i64 s] w fun ee w' => ee = .returned (.bool false) ∧ w = w' := by
  obtain ⟨d2, d32, dw, dw2, -⟩ := pow_dim hn h5 hD
  have n5 : (n : Int) ≤ 5 := by omega
  have q1 : decide (0 ≤ s) = true := by simp; omega
  have q2 : decide (s < (D : Int)) = false := by simp; omega
  clear hD
  go_enter Try.func108, Try.ntmps108
  go_wp2_with (fail)
  go_ret
  exact ⟨rfl, rfl⟩

set_option maxRecDepth 100000 in
set_option maxHeartbeats 4000000 in
theorem sa_s_f {a0 s : Int} {A : Option Addr} {m c1 : Nat} {gs : List C4.GateV} {w : World} (hA : C4.Rd C4.gateE w A gs) (hm : gs.length = m) (hmx : m ≤ maxLen) (hok : C4.okC a0 m gs = false) :
    Calls Try.prog 50 #[C4.circuitV a0 A m c1, .int .i64 s] w fun ee w' => ee = .returned (mt 0 0 none 0 0 false) ∧ Below w.heap.size w w' := by
  have HA := hid hA
  have HM := hid hm
  have HO := hid hok
  have HX := hid hmx
  clear hA hm hok hmx
  go_enter Try.func50, Try.ntmps50
  go_wp2_with (fail)
  refine (C4.vcs HO.out ?_ HM.out HX.out).mono ?_
  · exact HA.out.mono (by (repeat' (first | (with_reducible exact Below.refl _ _) | (with_reducible assumption) | (with_reducible refine Below.alloc ?_ ?_ _) | (with_reducible refine Below.drew ?_) | (with_reducible refine below_drewN ?_ _) | (with_reducible refine Below.setCell ?_ ?_ _) | (with_reducible refine chain ?_ (by assumption) ?_) | omega | (simp; done) | (simp; omega))))
  rintro ee w1 ⟨rfl, hb1⟩
  obtain ⟨hc1, hf1, _⟩ := bcell hb1; have hz1 := hb1.size; (try simp at hz1); (try have hx10 : w.heap.size < w1.heap.size := (by omega)); (try have hx11 : w.heap.size + 1 < w1.heap.size := (by omega)); (try have hx12 : w.heap.size + 1 + 1 < w1.heap.size := (by omega))
  go_wp2_with (fail)
  refine bodyPost_ret (v := mt 0 0 none 0 0 false) (by first | (simp [results, Try.results50, go_sem, *]; done) | (simp (disch := (first | omega | (simp; done) | (simp; omega))) [results, Try.results50, go_sem, *]; done) | (simp only [results, Try.results50]; go_simp; done)) rfl ⟨rfl, ?_⟩
  (repeat' (first | (with_reducible exact Below.refl _ _) | (with_reducible assumption) | (with_reducible refine Below.alloc ?_ ?_ _) | (with_reducible refine Below.drew ?_) | (with_reducible refine below_drewN ?_ _) | (with_reducible refine Below.setCell ?_ ?_ _) | (with_reducible refine chain ?_ (by assumption) ?_) | omega | (simp; done) | (simp; omega)))

set_option maxRecDepth 100000 in
set_option maxHeartbeats 4000000 in
theorem sa_i_f {a0 s : Int} {A : Option Addr} {m c1 : Nat} {gs : List C4.GateV} {w : World} (hA : C4.Rd C4.gateE w A gs) (hm : gs.length = m) (hmx : m ≤ maxLen) (hok : C4.okC a0 m gs = false) :
    Calls Try.prog 51 #[C4.circuitV a0 A m c1, .int .i64 s] w fun ee w' => ee = .returned (mt 0 0 none 0 0 false) ∧ Below w.heap.size w w' := by
  have HA := hid hA
  have HM := hid hm
  have HO := hid hok
  have HX := hid hmx
  clear hA hm hok hmx
  go_enter Try.func51, Try.ntmps51
  go_wp2_with (fail)
  refine (C4.vci HO.out ?_ HM.out HX.out).mono ?_
  · exact HA.out.mono (by (repeat' (first | (with_reducible exact Below.refl _ _) | (with_reducible assumption) | (with_reducible refine Below.alloc ?_ ?_ _) | (with_reducible refine Below.drew ?_) | (with_reducible refine below_drewN ?_ _) | (with_reducible refine Below.setCell ?_ ?_ _) | (with_reducible refine chain ?_ (by assumption) ?_) | omega | (simp; done) | (simp; omega))))
  rintro ee w1 ⟨rfl, hb1⟩
  obtain ⟨hc1, hf1, _⟩ := bcell hb1; have hz1 := hb1.size; (try simp at hz1); (try have hx10 : w.heap.size < w1.heap.size := (by omega)); (try have hx11 : w.heap.size + 1 < w1.heap.size := (by omega)); (try have hx12 : w.heap.size + 1 + 1 < w1.heap.size := (by omega))
  go_wp2_with (fail)
  refine bodyPost_ret (v := mt 0 0 none 0 0 false) (by first | (simp [results, Try.results51, go_sem, *]; done) | (simp (disch := (first | omega | (simp; done) | (simp; omega))) [results, Try.results51, go_sem, *]; done) | (simp only [results, Try.results51]; go_simp; done)) rfl ⟨rfl, ?_⟩
  (repeat' (first | (with_reducible exact Below.refl _ _) | (with_reducible assumption) | (with_reducible refine Below.alloc ?_ ?_ _) | (with_reducible refine Below.drew ?_) | (with_reducible refine below_drewN ?_ _) | (with_reducible refine Below.setCell ?_ ?_ _) | (with_reducible refine chain ?_ (by assumption) ?_) | omega | (simp; done) | (simp; omega)))

set_option maxRecDepth 100000 in
set_option maxHeartbeats 4000000 in
theorem sa_s_l {s : Int} {n m c1 : Nat} {A : Option Addr} {gs : List C4.GateV} {w : World} (hA : C4.Rd C4.gateE w A gs) (hm : gs.length = m) (hok : C4.okC (n : Int) m gs = true) (hs : s < 0) :
    Calls Try.prog 50 #[C4.circuitV (n : Int) A m c1, .int .i64 s] w fun ee w' => ee = .returned (mt 0 0 none 0 0 false) ∧ Below w.heap.size w w' := by
  obtain ⟨n', hn', h1, h5, hm4, hG⟩ := okC_nat hok
  obtain rfl : n = n' := by omega
  obtain ⟨D, hD⟩ : ∃ D, D = 2 ^ n := ⟨_, rfl⟩
  obtain ⟨d2, d32, dw, dw2, dd⟩ := pow_dim h1 h5 hD
  obtain ⟨NN, hNN⟩ : ∃ NN, NN = D * D := ⟨_, rfl⟩
  have nn5 : NN ≤ 1024 := by rw [hNN]; exact Nat.mul_le_mul d32 d32
  skip
  have hmx : m ≤ maxLen := by unfold maxLen; omega
  have n5 : (n : Int) ≤ 5 := by omega
  have HA := hid hA
  have HM := hid hm
  have HO := hid hok
  have HX := hid hmx
  have EQ := hid hNN
  have DD := hid dd
  have HG := hid hG
  have hs3 : wrap64 ((D : Int) - 1) = (D : Int) - 1 := IntWalk.wrap64_in _ (by clear dw dw2 hD; omega)
  have hs4 : IntKind.i64.wrap ((D : Int) - 1) = (D : Int) - 1 := IntWalk.i64_in _ (by clear dw dw2 hD; omega)
  have hs2 : wrap64 (2 ^ min (IntKind.u64.wrap (n : Int)).toNat 64) = (D : Int) := by
    have hu : IntKind.u64.wrap (n : Int) = (n : Int) := by
      have : n = 1 ∨ n = 2 ∨ n = 3 ∨ n = 4 ∨ n = 5 := by omega
      rcases this with rfl | rfl | rfl | rfl | rfl <;> rfl
    rw [hu, Int.toNat_natCast, Nat.min_eq_left (by omega)]
    exact dw
  have hsh : IntKind.i64.wrap (2 ^ min (IntKind.u64.wrap (n : Int)).toNat 64) = (D : Int) := by
    have hu : IntKind.u64.wrap (n : Int) = (n : Int) := by
      have : n = 1 ∨ n = 2 ∨ n = 3 ∨ n = 4 ∨ n = 5 := by omega
      rcases this with rfl | rfl | rfl | rfl | rfl <;> rfl
    rw [hu, Int.toNat_natCast, Nat.min_eq_left (by omega)]
    exact dw2
  have HD := hid hD
  clear hA hm hok hmx hD hNN dd hG hn'
  go_enter Try.func50, Try.ntmps50
  go_wp2_with (fail)
  refine (C4.vcs HO.out ?_ HM.out HX.out).mono ?_
  · exact HA.out.mono (by (repeat' (first | (with_reducible exact Below.refl _ _) | (with_reducible assumption) | (with_reducible refine Below.alloc ?_ ?_ _) | (with_reducible refine Below.drew ?_) | (with_reducible refine below_drewN ?_ _) | (with_reducible refine Below.setCell ?_ ?_ _) | (with_reducible refine chain ?_ (by assumption) ?_) | omega | (simp; done) | (simp; omega))))
  rintro ee w1 ⟨rfl, hb1⟩
  obtain ⟨hc1, hf1, _⟩ := bcell hb1; have hz1 := hb1.size; (try simp at hz1); (try have hx10 : w.heap.size < w1.heap.size := (by omega)); (try have hx11 : w.heap.size + 1 < w1.heap.size := (by omega)); (try have hx12 : w.heap.size + 1 + 1 < w1.heap.size := (by omega))
  go_wp2_with (fail)
  refine (in_l (lo := 0) hs _).mono ?_
  rintro ee w2 ⟨rfl, rfl⟩
  go_wp2_with (fail)
  refine bodyPost_ret (v := mt 0 0 none 0 0 false) (by first | (simp [results, Try.results50, go_sem, *]; done) | (simp (disch := (first | omega | (simp; done) | (simp; omega))) [results, Try.results50, go_sem, *]; done) | (simp only [results, Try.results50]; go_simp; done)) rfl ⟨rfl, ?_⟩
  (repeat' (first | (with_reducible exact Below.refl _ _) | (with_reducible assumption) | (with_reducible refine Below.alloc ?_ ?_ _) | (with_reducible refine Below.drew ?_) | (with_reducible refine below_drewN ?_ _) | (with_reducible refine Below.setCell ?_ ?_ _) | (with_reducible refine chain ?_ (by assumption) ?_) | omega | (simp; done) | (simp; omega)))

set_option maxRecDepth 100000 in
set_option maxHeartbeats 4000000 in
theorem sa_s_h {s : Int} {n m c1 : Nat} {A : Option Addr} {gs : List C4.GateV} {w : World} (hA : C4.Rd C4.gateE w A gs) (hm : gs.length = m) (hok : C4.okC (n : Int) m gs = true) (hs0 : 0 ≤ s) (hs : ((2 ^ n : Nat) : Int) ≤ s) :
    Calls Try.prog 50 #[C4.circuitV (n : Int) A m c1, .int .i64 s] w fun ee w' => ee = .returned (mt 0 0 none 0 0 false) ∧ Below w.heap.size w w' := by
  obtain ⟨n', hn', h1, h5, hm4, hG⟩ := okC_nat hok
  obtain rfl : n = n' := by omega
  obtain ⟨D, hD⟩ : ∃ D, D = 2 ^ n := ⟨_, rfl⟩
  obtain ⟨d2, d32, dw, dw2, dd⟩ := pow_dim h1 h5 hD
  obtain ⟨NN, hNN⟩ : ∃ NN, NN = D * D := ⟨_, rfl⟩
  have nn5 : NN ≤ 1024 := by rw [hNN]; exact Nat.mul_le_mul d32 d32
  rw [← hD] at hs
  have HS : Hid ((D : Int) - 1 < s) := by show _ < _; clear dw dw2 hD hok; omega
  have hmx : m ≤ maxLen := by unfold maxLen; omega
  have n5 : (n : Int) ≤ 5 := by omega
  have HA := hid hA
  have HM := hid hm
  have HO := hid hok
  have HX := hid hmx
  have EQ := hid hNN
  have DD := hid dd
  have HG := hid hG
  have hs3 : wrap64 ((D : Int) - 1) = (D : Int) - 1 := IntWalk.wrap64_in _ (by clear dw dw2 hD; omega)
  have hs4 : IntKind.i64.wrap ((D : Int) - 1) = (D : Int) - 1 := IntWalk.i64_in _ (by clear dw dw2 hD; omega)
  have hs2 : wrap64 (2 ^ min (IntKind.u64.wrap (n : Int)).toNat 64) = (D : Int) := by
    have hu : IntKind.u64.wrap (n : Int) = (n : Int) := by
      have : n = 1 ∨ n = 2 ∨ n = 3 ∨ n = 4 ∨ n = 5 := by omega
      rcases this with rfl | rfl | rfl | rfl | rfl <;> rfl
    rw [hu, Int.toNat_natCast, Nat.min_eq_left (by omega)]
    exact dw
  have hsh : IntKind.i64.wrap (2 ^ min (IntKind.u64.wrap (n : Int)).toNat 64) = (D : Int) := by
    have hu : IntKind.u64.wrap (n : Int) = (n : Int) := by
      have : n = 1 ∨ n = 2 ∨ n = 3 ∨ n = 4 ∨ n = 5 := by omega
      rcases this with rfl | rfl | rfl | rfl | rfl <;> rfl
    rw [hu, Int.toNat_natCast, Nat.min_eq_left (by omega)]
    exact dw2
  have HD := hid hD
  clear hA hm hok hmx hD hNN dd hG hn'
  go_enter Try.func50, Try.ntmps50
  go_wp2_with (fail)
  refine (C4.vcs HO.out ?_ HM.out HX.out).mono ?_
  · exact HA.out.mono (by (repeat' (first | (with_reducible exact Below.refl _ _) | (with_reducible assumption) | (with_reducible refine Below.alloc ?_ ?_ _) | (with_reducible refine Below.drew ?_) | (with_reducible refine below_drewN ?_ _) | (with_reducible refine Below.setCell ?_ ?_ _) | (with_reducible refine chain ?_ (by assumption) ?_) | omega | (simp; done) | (simp; omega))))
  rintro ee w1 ⟨rfl, hb1⟩
  obtain ⟨hc1, hf1, _⟩ := bcell hb1; have hz1 := hb1.size; (try simp at hz1); (try have hx10 : w.heap.size < w1.heap.size := (by omega)); (try have hx11 : w.heap.size + 1 < w1.heap.size := (by omega)); (try have hx12 : w.heap.size + 1 + 1 < w1.heap.size := (by omega))
  go_wp2_with (fail)
  refine (in_h (lo := 0) (hi := (D : Int) - 1) hs0 HS.out _).mono ?_
  rintro ee w2 ⟨rfl, rfl⟩
  go_wp2_with (fail)
  refine bodyPost_ret (v := mt 0 0 none 0 0 false) (by first | (simp [results, Try.results50, go_sem, *]; done) | (simp (disch := (first | omega | (simp; done) | (simp; omega))) [results, Try.results50, go_sem, *]; done) | (simp only [results, Try.results50]; go_simp; done)) rfl ⟨rfl, ?_⟩
  (repeat' (first | (with_reducible exact Below.refl _ _) | (with_reducible assumption) | (with_reducible refine Below.alloc ?_ ?_ _) | (with_reducible refine Below.drew ?_) | (with_reducible refine below_drewN ?_ _) | (with_reducible refine Below.setCell ?_ ?_ _) | (with_reducible refine chain ?_ (by assumption) ?_) | omega | (simp; done) | (simp; omega)))

set_option maxRecDepth 100000 in
set_option maxHeartbeats 4000000 in
theorem sa_i_l {s : Int} {n m c1 : Nat} {A : Option Addr} {gs : List C4.GateV} {w : World} (hA : C4.Rd C4.gateE w A gs) (hm : gs.length = m) (hok : C4.okC (n : Int) m gs = true) (hs : s < 0) :
    Calls Try.prog 51 #[C4.circuitV (n : Int) A m c1, .int .i64 s] w fun ee w' => ee = .returned (mt 0 0 none 0 0 false) ∧ Below w.heap.size w w' := by
  obtain ⟨n', hn', h1, h5, hm4, hG⟩ := okC_nat hok
  obtain rfl : n = n' := by omega
  obtain ⟨D, hD⟩ : ∃ D, D = 2 ^ n := ⟨_, rfl⟩
  obtain ⟨d2, d32, dw, dw2, dd⟩ := pow_dim h1 h5 hD
  obtain ⟨NN, hNN⟩ : ∃ NN, NN = D * D := ⟨_, rfl⟩
  have nn5 : NN ≤ 1024 := by rw [hNN]; exact Nat.mul_le_mul d32 d32
  skip
  have hmx : m ≤ maxLen := by unfold maxLen; omega
  have n5 : (n : Int) ≤ 5 := by omega
  have HA := hid hA
  have HM := hid hm
  have HO := hid hok
  have HX := hid hmx
  have EQ := hid hNN
  have DD := hid dd
  have HG := hid hG
  have hs3 : wrap64 ((D : Int) - 1) = (D : Int) - 1 := IntWalk.wrap64_in _ (by clear dw dw2 hD; omega)
  have hs4 : IntKind.i64.wrap ((D : Int) - 1) = (D : Int) - 1 := IntWalk.i64_in _ (by clear dw dw2 hD; omega)
  have hs2 : wrap64 (2 ^ min (IntKind.u64.wrap (n : Int)).toNat 64) = (D : Int) := by
    have hu : IntKind.u64.wrap (n : Int) = (n : Int) := by
      have : n = 1 ∨ n = 2 ∨ n = 3 ∨ n = 4 ∨ n = 5 := by omega
      rcases this with rfl | rfl | rfl | rfl | rfl <;> rfl
    rw [hu, Int.toNat_natCast, Nat.min_eq_left (by omega)]
    exact dw
  have hsh : IntKind.i64.wrap (2 ^ min (IntKind.u64.wrap (n : Int)).toNat 64) = (D : Int) := by
    have hu : IntKind.u64.wrap (n : Int) = (n : Int) := by
      have : n = 1 ∨ n = 2 ∨ n = 3 ∨ n = 4 ∨ n = 5 := by omega
      rcases this with rfl | rfl | rfl | rfl | rfl <;> rfl
    rw [hu, Int.toNat_natCast, Nat.min_eq_left (by omega)]
    exact dw2
  have HD := hid hD
  clear hA hm hok hmx hD hNN dd hG hn'
  go_enter Try.func51, Try.ntmps51
  go_wp2_with (fail)
  refine (C4.vci HO.out ?_ HM.out HX.out).mono ?_
  · exact HA.out.mono (by (repeat' (first | (with_reducible exact Below.refl _ _) | (with_reducible assumption) | (with_reducible refine Below.alloc ?_ ?_ _) | (with_reducible refine Below.drew ?_) | (with_reducible refine below_drewN ?_ _) | (with_reducible refine Below.setCell ?_ ?_ _) | (with_reducible refine chain ?_ (by assumption) ?_) | omega | (simp; done) | (simp; omega))))
  rintro ee w1 ⟨rfl, hb1⟩
  obtain ⟨hc1, hf1, _⟩ := bcell hb1; have hz1 := hb1.size; (try simp at hz1); (try have hx10 : w.heap.size < w1.heap.size := (by omega)); (try have hx11 : w.heap.size + 1 < w1.heap.size := (by omega)); (try have hx12 : w.heap.size + 1 + 1 < w1.heap.size := (by omega))
  go_wp2_with (fail)
  refine (ibs_l h1 h5 HD.out hs).mono ?_
  rintro ee w2 ⟨rfl, rfl⟩
  go_wp2_with (fail)
  refine bodyPost_ret (v := mt 0 0 none 0 0 false) (by first | (simp [results, Try.results51, go_sem, *]; done) | (simp (disch := (first | omega | (simp; done) | (simp; omega))) [results, Try.results51, go_sem, *]; done) | (simp only [results, Try.results51]; go_simp; done)) rfl ⟨rfl, ?_⟩
  (repeat' (first | (with_reducible exact Below.refl _ _) | (with_reducible assumption) | (with_reducible refine Below.alloc ?_ ?_ _) | (with_reducible refine Below.drew ?_) | (with_reducible refine below_drewN ?_ _) | (with_reducible refine Below.setCell ?_ ?_ _) | (with_reducible refine chain ?_ (by assumption) ?_) | omega | (simp; done) | (simp; omega)))

set_option maxRecDepth 100000 in
set_option maxHeartbeats 4000000 in
theorem sa_i_h {s : Int} {n m c1 : Nat} {A : Option Addr} {gs : List C4.GateV} {w : World} (hA : C4.Rd C4.gateE w A gs) (hm : gs.length = m) (hok : C4.okC (n : Int) m gs = true) (hs0 : 0 ≤ s) (hs : ((2 ^ n : Nat) : Int) ≤ s) :
    Calls Try.prog 51 #[C4.circuitV (n : Int) A m c1, .int .i64 s] w fun ee w' => ee = .returned (mt 0 0 none 0 0 false) ∧ Below w.heap.size w w' := by
  obtain ⟨n', hn', h1, h5, hm4, hG⟩ := okC_nat hok
  obtain rfl : n = n' := by omega
  obtain ⟨D, hD⟩ : ∃ D, D = 2 ^ n := ⟨_, rfl⟩
  obtain ⟨d2, d32, dw, dw2, dd⟩ := pow_dim h1 h5 hD
  obtain ⟨NN, hNN⟩ : ∃ NN, NN = D * D := ⟨_, rfl⟩
  have nn5 : NN ≤ 1024 := by rw [hNN]; exact Nat.mul_le_mul d32 d32
  rw [← hD] at hs
  have HS : Hid ((D : Int) - 1 < s) := by show _ < _; clear dw dw2 hD hok; omega
  have hmx : m ≤ maxLen := by unfold maxLen; omega
  have n5 : (n : Int) ≤ 5 := by omega
  have HA := hid hA
  have HM := hid hm
  have HO := hid hok
  have HX := hid hmx
  have EQ := hid hNN
  have DD := hid dd
  have HG := hid hG
  have hs3 : wrap64 ((D : Int) - 1) = (D : Int) - 1 := IntWalk.wrap64_in _ (by clear dw dw2 hD; omega)
  have hs4 : IntKind.i64.wrap ((D : Int) - 1) = (D : Int) - 1 := IntWalk.i64_in _ (by clear dw dw2 hD; omega)
  have hs2 : wrap64 (2 ^ min (IntKind.u64.wrap (n : Int)).toNat 64) = (D : Int) := by
    have hu : IntKind.u64.wrap (n : Int) = (n : Int) := by
      have : n = 1 ∨ n = 2 ∨ n = 3 ∨ n = 4 ∨ n = 5 := by omega
      rcases this with rfl | rfl | rfl | rfl | rfl <;> rfl
    rw [hu, Int.toNat_natCast, Nat.min_eq_left (by omega)]
    exact dw
  have hsh : IntKind.i64.wrap (2 ^ min (IntKind.u64.wrap (n : Int)).toNat 64) = (D : Int) := by
    have hu : IntKind.u64.wrap (n : Int) = (n : Int) := by
      have : n = 1 ∨ n = 2 ∨ n = 3 ∨ n = 4 ∨ n = 5 := by omega
      rcases this with rfl | rfl | rfl | rfl | rfl <;> rfl
    rw [hu, Int.toNat_natCast, Nat.min_eq_left (by omega)]
    exact dw2
  have HD := hid hD
  clear hA hm hok hmx hD hNN dd hG hn'
  go_enter Try.func51, Try.ntmps51
  go_wp2_with (fail)
  refine (C4.vci HO.out ?_ HM.out HX.out).mono ?_
  · exact HA.out.mono (by (repeat' (first | (with_reducible exact Below.refl _ _) | (with_reducible assumption) | (with_reducible refine Below.alloc ?_ ?_ _) | (with_reducible refine Below.drew ?_) | (with_reducible refine below_drewN ?_ _) | (with_reducible refine Below.setCell ?_ ?_ _) | (with_reducible refine chain ?_ (by assumption) ?_) | omega | (simp; done) | (simp; omega))))
  rintro ee w1 ⟨rfl, hb1⟩
  obtain ⟨hc1, hf1, _⟩ := bcell hb1; have hz1 := hb1.size; (try simp at hz1); (try have hx10 : w.heap.size < w1.heap.size := (by omega)); (try have hx11 : w.heap.size + 1 < w1.heap.size := (by omega)); (try have hx12 : w.heap.size + 1 + 1 < w1.heap.size := (by omega))
  go_wp2_with (fail)
  refine (ibs_h h1 h5 HD.out hs0 hs).mono ?_
  rintro ee w2 ⟨rfl, rfl⟩
  go_wp2_with (fail)
  refine bodyPost_ret (v := mt 0 0 none 0 0 false) (by first | (simp [results, Try.results51, go_sem, *]; done) | (simp (disch := (first | omega | (simp; done) | (simp; omega))) [results, Try.results51, go_sem, *]; done) | (simp only [results, Try.results51]; go_simp; done)) rfl ⟨rfl, ?_⟩
  (repeat' (first | (with_reducible exact Below.refl _ _) | (with_reducible assumption) | (with_reducible refine Below.alloc ?_ ?_ _) | (with_reducible refine Below.drew ?_) | (with_reducible refine below_drewN ?_ _) | (with_reducible refine Below.setCell ?_ ?_ _) | (with_reducible refine chain ?_ (by assumption) ?_) | omega | (simp; done) | (simp; omega)))

end Go.Proofs.Ytncgccpkbneagaa
namespace Go.Proofs.Ytncgccpkbneagaa
open Go.RowKit RM
set_option linter.unusedVariables false
set_option linter.unusedSimpArgs false
attribute [local irreducible] World.setCell

open GM
theorem stA_len {n s : Nat} {gs : List C4.GateV} {zs : List D5} (h : stA n s gs = some zs) : zs.length = 2 ^ n := by
  have := apl_len gs _ zs h (by rw [basL_len, Nat.mul_one])
  rw [this, Nat.mul_one]
theorem omp0 {w : World} : Calls Try.prog 98 #[.int .i64 0] w fun ee w' => ee = .returned (dy 1 0 0 0 0) ∧ Below w.heap.size w w' := omp (k := 0) (m := 0) (by decide) (by decide) (by decide) (by decide)
theorem zm1 {r : Nat} {w : World} (hb : r ≤ 1024) :
    Calls Try.prog 70 #[.int .i64 (r : Int), .int .i64 1] w fun ee w' => ∃ g : Nat, ee = .returned (mv (r : Int) 1 (some ⟨g, 0, none⟩) r r) ∧ Bk w' g 37 (List.replicate r z5) ∧ w.heap.size ≤ g ∧ Below w.heap.size w w' :=
  (zm (r := r) (c := 1) (n := r) (w := w) (by simp) hb).mono fun ee w' ⟨g, e, h⟩ => ⟨g, e, h⟩
theorem ag1 {n D m c1 h0 : Nat} {A : Option Addr} {gs : List C4.GateV} {xs : List D5} {w : World} (hA : C4.Rd C4.gateE w A gs) (hm : gs.length = m) (hm4 : m ≤ 400) (hG : ∀ (i : Nat) (g : C4.GateV), gs[i]? = some g → C4.vgB (n : Int) g = true) (h1 : 1 ≤ n) (h5 : n ≤ 5) (hD : D = 2 ^ n) (hX : Bk w h0 37 xs) (hx : xs.length = D) (hok : okM (D : Int) ((1 : Nat) : Int) D xs = true) :
    Calls Try.prog 104 #[C4.circuitV (n : Int) A m c1, mv (D : Int) 1 (some ⟨h0, 0, none⟩) D D] w fun ee w' => (apl n D 1 gs xs = none → ee = .returned (mt 0 0 none 0 0 false)) ∧ (∀ zs, apl n D 1 gs xs = some zs → ∃ h : Nat, ee = .returned (mt (D : Int) 1 (some ⟨h, 0, none⟩) D D true) ∧ Bk w' h 37 zs ∧ (h = h0 ∨ w.heap.size ≤ h)) ∧ Below w.heap.size w w' :=
  (ag_i (C := 1) (N := D) hA hm hm4 hG h1 h5 hD (by decide) (Nat.mul_one D).symm hX hx hok).mono fun ee w' h => h
theorem lrun1 {n D m c1 h0 o0 cp0 gc : Nat} {A : Option Addr} {gs : List C4.GateV} {xs : List D5} {w : World} (hA : C4.Rd C4.gateE w A gs) (hAg : ∀ a, A = some a → a.block ≠ gc) (hm : gs.length = m) (hm4 : m ≤ 400) (hG : ∀ (i : Nat) (g : C4.GateV), gs[i]? = some g → C4.vgB (n : Int) g = true) (h1 : 1 ≤ n) (h5 : n ≤ 5) (hD : D = 2 ^ n) (hX : Rd w (some ⟨h0, o0, none⟩) xs) (hh : h0 ≠ gc) (hhw : h0 < w.heap.size) (hx : xs.length = D) (hok : okM (D : Int) ((1 : Nat) : Int) D xs = true) (hc0 : Bx w gc 99 #[.bool false]) :
    Calls Try.prog 101 #[.pointer (some ⟨gc, 0, none⟩), C4.circuitV (n : Int) A m c1, mv (D : Int) 1 (some ⟨h0, o0, none⟩) D cp0] w fun ee w' => ∃ (z : Bool) (zs : List D5) (h o cq : Nat), ee = .returned (mv (D : Int) 1 (some ⟨h, o, none⟩) D cq) ∧ zs.length = D ∧ (z = false → apl n D 1 gs xs = some zs) ∧ (z = true → apl n D 1 gs xs = none) ∧ Rd w' (some ⟨h, o, none⟩) zs ∧ (h = h0 ∨ w.heap.size ≤ h) ∧ Below w.heap.size (w.setCell ⟨gc, 0, none⟩ (.bool z)) w' :=
  (lrun (C := 1) (N := D) hA hAg hm hm4 hG h1 h5 hD (by decide) (Nat.mul_one D).symm hX hh hhw hx hok hc0).mono fun ee w' h => h

set_option maxRecDepth 100000 in
set_option maxHeartbeats 8000000 in
theorem sa_i_t {s n m c1 : Nat} {A : Option Addr} {gs : List C4.GateV} {w : World} (hA : C4.Rd C4.gateE w A gs) (hm : gs.length = m) (hok : C4.okC (n : Int) m gs = true) (hs : s < 2 ^ n) :
    Calls Try.prog 51 #[C4.circuitV (n : Int) A m c1, .int .i64 (s : Int)] w fun ee w' => (stA n s gs = none → ee = .returned (mt 0 0 none 0 0 false)) ∧ (∀ zs, stA n s gs = some zs → ∃ h : Nat, ee = .returned (mt ((2 ^ n : Nat) : Int) 1 (some ⟨h, 0, none⟩) (2 ^ n) (2 ^ n) true) ∧ Bk w' h 37 zs ∧ w.heap.size ≤ h) ∧ Below w.heap.size w w' := by
  obtain ⟨n', hn', h1, h5, hm4, hG⟩ := okC_nat hok
  obtain rfl : n = n' := by omega
  obtain ⟨D, hD⟩ : ∃ D, D = 2 ^ n := ⟨_, rfl⟩
  obtain ⟨d2, d32, dw, dw2, dd⟩ := pow_dim h1 h5 hD
  obtain ⟨NN, hNN⟩ : ∃ NN, NN = D * D := ⟨_, rfl⟩
  have nn5 : NN ≤ 1024 := by rw [hNN]; exact Nat.mul_le_mul d32 d32
  have hr : ∀ s : Nat, stA n s gs = apl n D 1 gs (basL D s) := by intro s; unfold stA; rw [hD]
  rw [hr, ← hD]
  rw [← hD] at hs
  have j1 : (s : Int) < (D : Int) := by clear hD dw dw2 hok; omega
  have j2 : (s : Int) ≤ (D : Int) - 1 := by clear hD dw dw2 hok; omega
  have hmx : m ≤ maxLen := by unfold maxLen; omega
  have n5 : (n : Int) ≤ 5 := by omega
  have HA := hid hA
  have HM := hid hm
  have HO := hid hok
  have HX := hid hmx
  have EQ := hid hNN
  have DD := hid dd
  have HG := hid hG
  have hs3 : wrap64 ((D : Int) - 1) = (D : Int) - 1 := IntWalk.wrap64_in _ (by clear dw dw2 hD; omega)
  have hs4 : IntKind.i64.wrap ((D : Int) - 1) = (D : Int) - 1 := IntWalk.i64_in _ (by clear dw dw2 hD; omega)
  have hs2 : wrap64 (2 ^ min (IntKind.u64.wrap (n : Int)).toNat 64) = (D : Int) := by
    have hu : IntKind.u64.wrap (n : Int) = (n : Int) := by
      have : n = 1 ∨ n = 2 ∨ n = 3 ∨ n = 4 ∨ n = 5 := by omega
      rcases this with rfl | rfl | rfl | rfl | rfl <;> rfl
    rw [hu, Int.toNat_natCast, Nat.min_eq_left (by omega)]
    exact dw
  have hsh : IntKind.i64.wrap (2 ^ min (IntKind.u64.wrap (n : Int)).toNat 64) = (D : Int) := by
    have hu : IntKind.u64.wrap (n : Int) = (n : Int) := by
      have : n = 1 ∨ n = 2 ∨ n = 3 ∨ n = 4 ∨ n = 5 := by omega
      rcases this with rfl | rfl | rfl | rfl | rfl <;> rfl
    rw [hu, Int.toNat_natCast, Nat.min_eq_left (by omega)]
    exact dw2
  have HD := hid hD
  have HB := hid (basL_eq hs)
  clear hA hm hok hmx hD hNN dd hG hn' hr
  go_enter Try.func51, Try.ntmps51
  go_wp2_with (fail)
  refine (C4.vci HO.out ?_ HM.out HX.out).mono ?_
  · exact HA.out.mono (by (repeat' (first | (with_reducible exact Below.refl _ _) | (with_reducible assumption) | (with_reducible refine Below.alloc ?_ ?_ _) | (with_reducible refine Below.drew ?_) | (with_reducible refine below_drewN ?_ _) | (with_reducible refine Below.setCell ?_ ?_ _) | (with_reducible refine chain ?_ (by assumption) ?_) | omega | (simp; done) | (simp; omega))))
  rintro ee w1 ⟨rfl, hb1⟩
  have Xc1 : Bx w1 (w.heap.size) 69 #[.int .i64 (n : Int), .slice A m c1] := by (repeat' (first | (with_reducible assumption) | (refine Bx.new (by first | (with_reducible rfl) | (simp; done))) | (with_reducible refine Bx.alloc ?_ _) | (with_reducible refine Bx.drew ?_) | (with_reducible refine Bx.drewN ?_ _) | (with_reducible refine Bx.mono ?_ (by assumption)) | (with_reducible refine Bx.badly ?_ (by assumption) (by omega)) | (with_reducible refine Bx.far ?_ (by (try simp only [World.size_alloc, World.size_drew]); omega)) | (with_reducible refine Bx.set ?_ rfl) | (with_reducible refine Bx.grown ?_ (by assumption) (by assumption))))
  have Xz1 : Bx w1 (w.heap.size + 1) 26 #[.int .i64 0, .int .i64 0, .slice none 0 0] := by (repeat' (first | (with_reducible assumption) | (refine Bx.new (by first | (with_reducible rfl) | (simp; done))) | (with_reducible refine Bx.alloc ?_ _) | (with_reducible refine Bx.drew ?_) | (with_reducible refine Bx.drewN ?_ _) | (with_reducible refine Bx.mono ?_ (by assumption)) | (with_reducible refine Bx.badly ?_ (by assumption) (by omega)) | (with_reducible refine Bx.far ?_ (by (try simp only [World.size_alloc, World.size_drew]); omega)) | (with_reducible refine Bx.set ?_ rfl) | (with_reducible refine Bx.grown ?_ (by assumption) (by assumption))))
  have hz1 := hb1.size
  (try simp only [World.size_alloc] at hz1)
  have hw1 : Below w.heap.size w w1 := by (repeat' (first | (with_reducible exact Below.refl _ _) | (with_reducible assumption) | (with_reducible refine Below.alloc ?_ ?_ _) | (with_reducible refine Below.drew ?_) | (with_reducible refine below_drewN ?_ _) | (with_reducible refine Below.setCell ?_ ?_ _) | (with_reducible refine chain ?_ (by assumption) ?_) | omega | (simp; done) | (simp; omega)))
  have c0 := Xc1.c 0 rfl
  have c1' := Xc1.c 1 rfl
  have lc := Xc1.lt
  clear hb1
  go_wp2_with (fail)
  refine (ibs_t h1 h5 HD.out (by omega) j1).mono ?_
  rintro ee w2' ⟨rfl, rfl⟩
  go_wp2_with (fail)
  refine (zm1 (r := D) (by omega)).mono ?_
  rintro ee w2 ⟨g, rfl, hK2, hg2, hb2⟩
  have Xc2 := Xc1.mono hb2
  have Xz2 := Xz1.mono hb2
  have hz2 := hb2.size
  have hlg := hK2.lt
  have hw2 : Below w.heap.size w w2 := chain hw1 hb2 hw1.size
  clear hb2 c0 c1' lc Xc1 Xz1
  go_upto_region 4 with (fail)
  obtain ⟨W, hW⟩ : ∃ W : World, W = w2.alloc (.cells #[.int .i64 (D : Int), .int .i64 1, .slice (some ⟨g, 0, none⟩) D D] 26) := ⟨_, rfl⟩
  have hbW : Below w2.heap.size w2 W := by rw [hW]; exact (Below.refl _ _).alloc (Nat.le_refl _) _
  have Xm : Bx W w2.heap.size 26 #[.int .i64 (D : Int), .int .i64 1, .slice (some ⟨g, 0, none⟩) D D] := by rw [hW]; exact Bx.new rfl
  have hzW : w2.heap.size < W.heap.size := by rw [hW]; simp
  rw [← hW]
  clear hW
  have Xc := Xc2.mono hbW
  have Xz := Xz2.mono hbW
  have hwW : Below w.heap.size w W := chain hw2 hbW hw2.size
  have HKW := hid (hK2.mono hbW)
  clear Xc2 Xz2 hK2
  have cm1 := Xm.c 1 rfl
  have cm2 := Xm.c 2 rfl
  have ycm1 : W.drew.cell? ⟨w2.heap.size, 1, none⟩ = some (.int .i64 1) := cm1
  have ycm2 : W.drew.cell? ⟨w2.heap.size, 2, none⟩ = some (.slice (some ⟨g, 0, none⟩) D D) := cm2
  refine wp_region_x (fun w' => w'.cell? ⟨w2.heap.size, 1, none⟩ = some (.int .i64 1) ∧ w'.cell? ⟨w2.heap.size, 2, none⟩ = some (.slice (some ⟨g, 0, none⟩) D D)) 5 (by kernel_rfl) ⟨ycm1, ycm2⟩ (fun hS0 => ?_)
  refine wpAnyX_take (i := 0) (oi := _) (v := ?_) rfl (by kernel_rfl) (by kernel_rfl) (by kernel_rfl) (by kernel_rfl) (fun _ _ _ h => h) (Or.inl ⟨by rfl, ?_⟩) hS0 ?_
  rotate_left 1
  · (intro w hSw; (try dsimp only at hSw); go_simp; (try with_reducible rfl))
  try simp only [Act.put, List.setIfInBounds_toArray, List.set_cons_zero, List.set_cons_succ]
  refine wpAnyX_take (i := 1) (oi := _) (v := ?_) rfl (by kernel_rfl) (by kernel_rfl) (by kernel_rfl) (by kernel_rfl) (fun _ _ _ h => h) (Or.inl ⟨by rfl, ?_⟩) hS0 ?_
  rotate_left 1
  · (intro w hSw; (try dsimp only at hSw); go_simp; (try with_reducible rfl))
  try simp only [Act.put, List.setIfInBounds_toArray, List.set_cons_zero, List.set_cons_succ]
  refine wpAnyX_take (i := 2) (oi := _) (v := ?_) rfl (by kernel_rfl) (by kernel_rfl) (by kernel_rfl) (by kernel_rfl) (fun _ _ _ h => h) (Or.inl ⟨by rfl, ?_⟩) hS0 ?_
  rotate_left 1
  · (intro w hSw; (try dsimp only at hSw); go_simp; (try with_reducible rfl))
  try simp only [Act.put, List.setIfInBounds_toArray, List.set_cons_zero, List.set_cons_succ]
  refine wpAnyX_one (i := 3) (o := _) rfl (by kernel_rfl) (fun K hK => ?_)
  go_simp
  refine omp0.mono ?_
  rintro ee w3 ⟨rfl, hb30⟩
  have hb3 := undrewK hb30
  have hz3 := hb3.size
  refine hK.out _ _ (fun _ => ?_) (fun hS1 => ?_)
  · exact ⟨kc hb30 (hS0.1), kc hb30 (hS0.2)⟩
  clear hK K
  have hS1 := hS1 (by decide)
  try simp only [Act.put, List.setIfInBounds_toArray, List.set_cons_zero, List.set_cons_succ]
  refine wpAnyX_take (i := 4) (oi := _) (v := ?_) rfl (by kernel_rfl) (by kernel_rfl) (by kernel_rfl) (by kernel_rfl) (fun _ _ _ h => h) (Or.inl ⟨by rfl, ?_⟩) hS1 ?_
  rotate_left 1
  · (intro w hSw; (try dsimp only at hSw); go_simp; (try with_reducible rfl))
  try simp only [Act.put, List.setIfInBounds_toArray, List.set_cons_zero, List.set_cons_succ]
  refine wpAnyX_one (i := 5) (o := _) rfl (by kernel_rfl) (fun K hK => ?_)
  have hG3 := HKW.out.mono hb3
  have fr3 := hG3.fr
  obtain ⟨p0, p1, p2, p3, p4⟩ := hG3.cx (k := s) (x := z5) (by rw [List.getElem?_replicate, if_pos hs])
  go_simp
  refine hK.out _ _ (fun h => absurd rfl h) (fun _ => ?_)
  clear hK K
  try simp only [Act.put, List.setIfInBounds_toArray, List.set_cons_zero, List.set_cons_succ]
  refine wpAnyX_done (by kernel_rfl) ?_ _
  have hw3 : Below w.heap.size w w3 := chain hwW hb3 hwW.size
  have R1 := (Xc.mono hb3).far5 (g := g) (o := s * 5) one5 (by omega)
  have R2 := (Xz.mono hb3).far5 (g := g) (o := s * 5) one5 (by omega)
  have R3 := (Xm.mono hb3).far5 (g := g) (o := s * 5) one5 (by omega)
  have hG5 := hG3.set (k := s) one5 (by simp; exact hs)
  rw [show one5 = omP 0 from rfl, HB.out] at hG5
  have hw5 : Below w.heap.size w (set5 w3 g (s * 5) one5) := set5_below (x := one5) hw3 (by omega)
  have hw35 : set5 w3 g (s * 5) one5 = set5 w3 g (s * 5) (omP 0) := rfl
  obtain ⟨W5, hW5⟩ : ∃ W5 : World, W5 = set5 w3 g (s * 5) one5 := ⟨_, rfl⟩
  rw [← hW5] at R1 R2 R3 hw5
  rw [← hw35, ← hW5] at hG5
  have HK5 := hid hG5
  have e5 : W5.heap.size = w3.heap.size := by rw [hW5]; unfold set5; simp only [World.size_setCell]
  rw [show (((((w3.setCell ⟨g, s * 5, none⟩ (.int .i64 1)).setCell ⟨g, s * 5 + 1, none⟩ (.int .i64 0)).setCell ⟨g, s * 5 + 2, none⟩ (.int .i64 0)).setCell ⟨g, s * 5 + 3, none⟩ (.int .i64 0)).setCell ⟨g, s * 5 + 4, none⟩ (.int .i64 0)) = W5 from hW5.symm]
  clear hW5 hw35 hG5 hG3 fr3 p0 p1 p2 p3 p4 hb3 Xc Xz Xm HKW cm1 cm2
  have c0 := R1.c 0 rfl
  have c1' := R1.c 1 rfl
  have d0 := R3.c 0 rfl
  have d1 := R3.c 1 rfl
  have d2' := R3.c 2 rfl
  go_wp2_with (fail)
  refine (ag1 (n := n) (D := D) (m := m) (c1 := c1) (h0 := g) (A := A) (gs := gs) (xs := basL D s) ?_ HM.out hm4 HG.out h1 h5 HD.out ?_ basL_len (basL_ok DD.out)).mono ?_
  · exact HA.out.mono hw5
  · exact HK5.out
  rintro ee w6 ⟨r1, r2, hb6⟩
  have Xz6 := R2.mono hb6
  have hz6 := hb6.size
  have hw6 : Below w.heap.size w w6 := chain hw5 hb6 hw5.size
  have q0 := Xz6.c 0 rfl
  have q1 := Xz6.c 1 rfl
  have q2 := Xz6.c 2 rfl
  have qf := Xz6.f
  have ql := Xz6.lt
  clear hb6 c0 c1' d0 d1 d2' R1 R2 R3
  cases hq : apl n D 1 gs (basL D s) with
  | none =>
    obtain rfl := r1 hq
    have HQ := hid hq
    clear r1 r2 hq
    go_wp2_with (fail)
    refine bodyPost_ret (v := mt 0 0 none 0 0 false) (by first | (simp [results, Try.results51, go_sem, *]; done) | (simp (disch := (first | omega | (simp; done) | (simp; omega))) [results, Try.results51, go_sem, *]; done) | (simp only [results, Try.results51]; go_simp; done)) rfl ⟨fun _ => rfl, fun zs k => ?_, ?_⟩
    · rw [HQ.out] at k; cases k
    · (repeat' (first | (with_reducible exact Below.refl _ _) | (with_reducible assumption) | (with_reducible refine Below.alloc ?_ ?_ _) | (with_reducible refine Below.drew ?_) | (with_reducible refine below_drewN ?_ _) | (with_reducible refine Below.setCell ?_ ?_ _) | (with_reducible refine chain ?_ (by assumption) ?_) | omega | (simp; done) | (simp; omega)))
  | some zs =>
    obtain ⟨h, rfl, hK, hh⟩ := r2 zs hq
    have HQ := hid hq
    have HK := hid hK
    have hhl := hK.lt
    clear r1 r2 hq hK
    go_wp2_with (fail)
    refine bodyPost_ret (v := mt (D : Int) 1 (some ⟨h, 0, none⟩) D D true) (by first | (simp [results, Try.results51, go_sem, *]; done) | (simp (disch := (first | omega | (simp; done) | (simp; omega))) [results, Try.results51, go_sem, *]; done) | (simp only [results, Try.results51]; go_simp; done)) rfl ⟨fun k => ?_, fun zs k => ?_, ?_⟩
    · rw [HQ.out] at k; cases k
    · rw [HQ.out] at k
      obtain rfl := Option.some.inj k
      refine ⟨h, rfl, ?_, by omega⟩
      (repeat' (first | exact HK.out | refine Bk.far ?_ (by show h ≠ w.heap.size + 1; omega) _))
    · (repeat' (first | (with_reducible exact Below.refl _ _) | (with_reducible assumption) | (with_reducible refine Below.alloc ?_ ?_ _) | (with_reducible refine Below.drew ?_) | (with_reducible refine below_drewN ?_ _) | (with_reducible refine Below.setCell ?_ ?_ _) | (with_reducible refine chain ?_ (by assumption) ?_) | omega | (simp; done) | (simp; omega)))

end Go.Proofs.Ytncgccpkbneagaa
namespace Go.Proofs.Ytncgccpkbneagaa
open Go.RowKit RM
set_option linter.unusedVariables false
set_option linter.unusedSimpArgs false
attribute [local irreducible] World.setCell

open GM
set_option maxRecDepth 100000 in
set_option maxHeartbeats 8000000 in
theorem sa_s_t {s n m c1 : Nat} {A : Option Addr} {gs : List C4.GateV} {w : World} (hA : C4.Rd C4.gateE w A gs) (hm : gs.length = m) (hok : C4.okC (n : Int) m gs = true) (hAb : ∀ a, A = some a → a.block < w.heap.size) (hs : s < 2 ^ n) :
    Calls Try.prog 50 #[C4.circuitV (n : Int) A m c1, .int .i64 (s : Int)] w fun ee w' => (stA n s gs = none → ee = .returned (mt 0 0 none 0 0 false)) ∧ (∀ zs, stA n s gs = some zs → ∃ (Bo : Option Addr) (cq : Nat), ee = .returned (mt ((2 ^ n : Nat) : Int) 1 Bo (2 ^ n) cq true) ∧ Rd w' Bo zs) ∧ Below w.heap.size w w' := by
  obtain ⟨n', hn', h1, h5, hm4, hG⟩ := okC_nat hok
  obtain rfl : n = n' := by omega
  obtain ⟨D, hD⟩ : ∃ D, D = 2 ^ n := ⟨_, rfl⟩
  obtain ⟨d2, d32, dw, dw2, dd⟩ := pow_dim h1 h5 hD
  obtain ⟨NN, hNN⟩ : ∃ NN, NN = D * D := ⟨_, rfl⟩
  have nn5 : NN ≤ 1024 := by rw [hNN]; exact Nat.mul_le_mul d32 d32
  have hr : ∀ s : Nat, stA n s gs = apl n D 1 gs (basL D s) := by intro s; unfold stA; rw [hD]
  rw [hr, ← hD]
  rw [← hD] at hs
  have j1 : (s : Int) < (D : Int) := by clear hD dw dw2 hok; omega
  have j2 : (s : Int) ≤ (D : Int) - 1 := by clear hD dw dw2 hok; omega
  have hmx : m ≤ maxLen := by unfold maxLen; omega
  have n5 : (n : Int) ≤ 5 := by omega
  have HA := hid hA
  have HM := hid hm
  have HO := hid hok
  have HX := hid hmx
  have EQ := hid hNN
  have DD := hid dd
  have HG := hid hG
  have hs3 : wrap64 ((D : Int) - 1) = (D : Int) - 1 := IntWalk.wrap64_in _ (by clear dw dw2 hD; omega)
  have hs4 : IntKind.i64.wrap ((D : Int) - 1) = (D : Int) - 1 := IntWalk.i64_in _ (by clear dw dw2 hD; omega)
  have hs2 : wrap64 (2 ^ min (IntKind.u64.wrap (n : Int)).toNat 64) = (D : Int) := by
    have hu : IntKind.u64.wrap (n : Int) = (n : Int) := by
      have : n = 1 ∨ n = 2 ∨ n = 3 ∨ n = 4 ∨ n = 5 := by omega
      rcases this with rfl | rfl | rfl | rfl | rfl <;> rfl
    rw [hu, Int.toNat_natCast, Nat.min_eq_left (by omega)]
    exact dw
  have hsh : IntKind.i64.wrap (2 ^ min (IntKind.u64.wrap (n : Int)).toNat 64) = (D : Int) := by
    have hu : IntKind.u64.wrap (n : Int) = (n : Int) := by
      have : n = 1 ∨ n = 2 ∨ n = 3 ∨ n = 4 ∨ n = 5 := by omega
      rcases this with rfl | rfl | rfl | rfl | rfl <;> rfl
    rw [hu, Int.toNat_natCast, Nat.min_eq_left (by omega)]
    exact dw2
  have HD := hid hD
  have HAB := hid hAb
  have HB := hid (basL_eq hs)
  clear hA hm hok hmx hD hNN dd hG hn' hr hAb
  go_enter Try.func50, Try.ntmps50
  go_wp2_with (fail)
  refine (C4.vcs HO.out ?_ HM.out HX.out).mono ?_
  · exact HA.out.mono (by (repeat' (first | (with_reducible exact Below.refl _ _) | (with_reducible assumption) | (with_reducible refine Below.alloc ?_ ?_ _) | (with_reducible refine Below.drew ?_) | (with_reducible refine below_drewN ?_ _) | (with_reducible refine Below.setCell ?_ ?_ _) | (with_reducible refine chain ?_ (by assumption) ?_) | omega | (simp; done) | (simp; omega))))
  rintro ee w1 ⟨rfl, hb1⟩
  have Xc1 : Bx w1 (w.heap.size) 69 #[.int .i64 (n : Int), .slice A m c1] := by (repeat' (first | (with_reducible assumption) | (refine Bx.new (by first | (with_reducible rfl) | (simp; done))) | (with_reducible refine Bx.alloc ?_ _) | (with_reducible refine Bx.drew ?_) | (with_reducible refine Bx.drewN ?_ _) | (with_reducible refine Bx.mono ?_ (by assumption)) | (with_reducible refine Bx.badly ?_ (by assumption) (by omega)) | (with_reducible refine Bx.far ?_ (by (try simp only [World.size_alloc, World.size_drew]); omega)) | (with_reducible refine Bx.set ?_ rfl) | (with_reducible refine Bx.grown ?_ (by assumption) (by assumption))))
  have Xz1 : Bx w1 (w.heap.size + 1) 26 #[.int .i64 0, .int .i64 0, .slice none 0 0] := by (repeat' (first | (with_reducible assumption) | (refine Bx.new (by first | (with_reducible rfl) | (simp; done))) | (with_reducible refine Bx.alloc ?_ _) | (with_reducible refine Bx.drew ?_) | (with_reducible refine Bx.drewN ?_ _) | (with_reducible refine Bx.mono ?_ (by assumption)) | (with_reducible refine Bx.badly ?_ (by assumption) (by omega)) | (with_reducible refine Bx.far ?_ (by (try simp only [World.size_alloc, World.size_drew]); omega)) | (with_reducible refine Bx.set ?_ rfl) | (with_reducible refine Bx.grown ?_ (by assumption) (by assumption))))
  have hz1 := hb1.size
  (try simp only [World.size_alloc] at hz1)
  have hw1 : Below w.heap.size w w1 := by (repeat' (first | (with_reducible exact Below.refl _ _) | (with_reducible assumption) | (with_reducible refine Below.alloc ?_ ?_ _) | (with_reducible refine Below.drew ?_) | (with_reducible refine below_drewN ?_ _) | (with_reducible refine Below.setCell ?_ ?_ _) | (with_reducible refine chain ?_ (by assumption) ?_) | omega | (simp; done) | (simp; omega)))
  have c0 := Xc1.c 0 rfl
  have c1' := Xc1.c 1 rfl
  have lc := Xc1.lt
  clear hb1
  go_wp2_with (fail)
  refine (in_t (lo := 0) (hi := (D : Int) - 1) (by omega) j2 _).mono ?_
  rintro ee w2' ⟨rfl, rfl⟩
  go_upto_region 4 with (fail)
  obtain ⟨W, hW⟩ : ∃ W : World, W = w1.alloc (.cells #[.bool false] 99) := ⟨_, rfl⟩
  have hbW : Below w1.heap.size w1 W := by rw [hW]; exact (Below.refl _ _).alloc (Nat.le_refl _) _
  have Xf : Bx W w1.heap.size 99 #[.bool false] := by rw [hW]; exact Bx.new rfl
  have hzW : w1.heap.size < W.heap.size := by rw [hW]; simp
  have hzW2 : W.heap.size ≤ w1.heap.size + 1 := by rw [hW]; simp
  rw [← hW]
  clear hW c0 c1' lc
  have Xc := Xc1.mono hbW
  have Xz := Xz1.mono hbW
  have hwW : Below w.heap.size w W := chain hw1 hbW hw1.size
  clear Xc1 Xz1
  have c0 := Xc.c 0 rfl
  have c1' := Xc.c 1 rfl
  have hAl : ∀ a, A = some a → a.block < w.heap.size := HAB.out
  cases hq : apl n D 1 gs (basL D s) with
  | none =>
    have yc0 : W.drew.cell? ⟨w.heap.size, 0, none⟩ = some (.int .i64 (n : Int)) := c0
    have yc1' : W.drew.cell? ⟨w.heap.size, 1, none⟩ = some (.slice A m c1) := c1'
    refine wp_region_x (fun w' => w'.cell? ⟨w.heap.size, 0, none⟩ = some (.int .i64 (n : Int)) ∧ w'.cell? ⟨w.heap.size, 1, none⟩ = some (.slice A m c1)) 1000 (by kernel_rfl) ⟨yc0, yc1'⟩ (fun hS0 => ?_)
    refine wpAnyX_take (i := 0) (oi := _) (v := ?_) rfl (by kernel_rfl) (by kernel_rfl) (by kernel_rfl) (by kernel_rfl) (fun _ _ _ h => h) (Or.inl ⟨by rfl, ?_⟩) hS0 ?_
    rotate_left 1
    · (intro w hSw; (try dsimp only at hSw); go_simp; (try with_reducible rfl))
    try simp only [Act.put, List.setIfInBounds_toArray, List.set_cons_zero, List.set_cons_succ]
    refine wpAnyX_take (i := 1) (oi := _) (v := ?_) rfl (by kernel_rfl) (by kernel_rfl) (by kernel_rfl) (by kernel_rfl) (fun _ _ _ h => h) (Or.inl ⟨by rfl, ?_⟩) hS0 ?_
    rotate_left 1
    · (intro w hSw; (try dsimp only at hSw); go_simp; (try with_reducible rfl))
    try simp only [Act.put, List.setIfInBounds_toArray, List.set_cons_zero, List.set_cons_succ]
    refine wpAnyX_take (i := 2) (oi := _) (v := ?_) rfl (by kernel_rfl) (by kernel_rfl) (by kernel_rfl) (by kernel_rfl) (fun _ _ _ h => h) (Or.inl ⟨by rfl, ?_⟩) hS0 ?_
    rotate_left 1
    · (intro w hSw; (try dsimp only at hSw); go_simp; (try with_reducible rfl))
    try simp only [Act.put, List.setIfInBounds_toArray, List.set_cons_zero, List.set_cons_succ]
    refine wpAnyX_take (i := 3) (oi := _) (v := ?_) rfl (by kernel_rfl) (by kernel_rfl) (by kernel_rfl) (by kernel_rfl) (fun _ _ _ h => h) (Or.inl ⟨by rfl, ?_⟩) hS0 ?_
    rotate_left 1
    · (intro w hSw; (try dsimp only at hSw); go_simp; (try with_reducible rfl))
    try simp only [Act.put, List.setIfInBounds_toArray, List.set_cons_zero, List.set_cons_succ]
    refine wpAnyX_take (i := 4) (oi := _) (v := ?_) rfl (by kernel_rfl) (by kernel_rfl) (by kernel_rfl) (by kernel_rfl) (fun _ _ _ h => h) (Or.inl ⟨by rfl, ?_⟩) hS0 ?_
    rotate_left 1
    · (intro w hSw; (try dsimp only at hSw); go_simp; (try with_reducible rfl))
    try simp only [Act.put, List.setIfInBounds_toArray, List.set_cons_zero, List.set_cons_succ]
    refine wpAnyX_take (i := 5) (oi := _) (v := ?_) rfl (by kernel_rfl) (by kernel_rfl) (by kernel_rfl) (by kernel_rfl) (fun _ _ _ h => h) (Or.inl ⟨by rfl, ?_⟩) hS0 ?_
    rotate_left 1
    · (intro w hSw; (try dsimp only at hSw); go_simp; (try with_reducible rfl))
    try simp only [Act.put, List.setIfInBounds_toArray, List.set_cons_zero, List.set_cons_succ]
    refine wpAnyX_take (i := 6) (oi := _) (v := ?_) rfl (by kernel_rfl) (by kernel_rfl) (by kernel_rfl) (by kernel_rfl) (fun _ _ _ h => h) (Or.inl ⟨by rfl, ?_⟩) hS0 ?_
    rotate_left 1
    · (intro w hSw; (try dsimp only at hSw); go_simp; (try with_reducible rfl))
    try simp only [Act.put, List.setIfInBounds_toArray, List.set_cons_zero, List.set_cons_succ]
    refine wpAnyX_take (i := 8) (oi := _) (v := ?_) rfl (by kernel_rfl) (by kernel_rfl) (by kernel_rfl) (by kernel_rfl) (fun _ _ _ h => h) (Or.inl ⟨by rfl, ?_⟩) hS0 ?_
    rotate_left 1
    · (intro w hSw; (try dsimp only at hSw); go_simp; (try with_reducible rfl))
    try simp only [Act.put, List.setIfInBounds_toArray, List.set_cons_zero, List.set_cons_succ]
    refine wpAnyX_one (i := 7) (o := _) rfl (by kernel_rfl) (fun K hK => ?_)
    go_simp
    (try simp only [hsh])
    refine (unit_s (N := D) (n := NN) EQ.out (by omega) d32 nn5).mono ?_
    rintro ee w2 ⟨rfl, hK2, hb20⟩
    have hb2 := undrewK hb20
    have hz2 := hb2.size
    (try simp only [World.size_drew] at hK2)
    refine hK.out _ _ (fun _ => ?_) (fun hS1 => ?_)
    · exact ⟨kc hb20 (hS0.1), kc hb20 (hS0.2)⟩
    clear hK K
    have hS1 := hS1 (by decide)
    try simp only [Act.put, List.setIfInBounds_toArray, List.set_cons_zero, List.set_cons_succ]
    refine wpAnyX_one (i := 9) (o := _) rfl (by kernel_rfl) (fun K hK => ?_)
    go_simp
    refine (lcol (r := D) (c := D) (k := s) (xs := tab NN (unitP D D)) hK2.rd (tab_len _ _) EQ.out hs nn5 d32 d32).mono ?_
    rintro ee w9 ⟨B9, cq9, rfl, hR9, hA9, hb9⟩
    have hz9 := hb9.size
    rw [EQ.out] at hR9
    obtain ⟨h9, o9, rfl, lh9⟩ := Rd.nz (xs := basL D s) hR9 (by rw [basL_len]; omega)
    have hg9 : w2.heap.size ≤ h9 := hA9 _ rfl
    refine hK.out _ _ (fun _ => ?_) (fun hS2 => ?_)
    · exact ⟨kc hb9 (hS1.1), kc hb9 (hS1.2)⟩
    clear hK K
    have hS2 := hS2 (by decide)
    try simp only [Act.put, List.setIfInBounds_toArray, List.set_cons_zero, List.set_cons_succ]
    refine wpAnyX_one (i := 10) (o := _) rfl (by kernel_rfl) (fun K hK => ?_)
    go_simp
    refine (lrun1 (n := n) (D := D) (m := m) (c1 := c1) (A := A) (gs := gs) (gc := w1.heap.size) (xs := basL D s) (HA.out.mono (chain (chain hwW hb2 hwW.size) hb9 (by omega))) (fun a ha => by have := (hAl a ha); omega) HM.out hm4 HG.out h1 h5 HD.out hR9 (by omega) lh9 basL_len (basL_ok DD.out) ((Xf.mono hb2).mono hb9)).mono ?_
    rintro ee w3 ⟨z, zs, h, o, cq, rfl, hl, hzf, hzt, hR3, hh3, hb3⟩
    have hz3 := bad_size hb3
    have Xf3 := ((Xf.mono hb2).mono hb9).bad hb3
    obtain rfl : z = true := by
      cases z
      · rw [hzf rfl] at hq; cases hq
      · rfl
    have f0 := Xf3.c 0 rfl
    have lf3 := Xf3.lt
    refine hK.out _ _ (fun _ => ?_) (fun hS3 => ?_)
    · exact ⟨kbad hb3 (by omega) (hS2.1), kbad hb3 (by omega) (hS2.2)⟩
    clear hK K
    have hS3 := hS3 (by decide)
    try simp only [Act.put, List.setIfInBounds_toArray, List.set_cons_zero, List.set_cons_succ]
    refine wpAnyX_one (i := 11) (o := _) rfl (by kernel_rfl) (fun K hK => ?_)
    go_simp
    refine (cmat_t f0).mono ?_
    rintro ee w4 ⟨rfl, hb4⟩
    have hz4 := hb4.size
    refine hK.out _ _ (fun _ => ?_) (fun hS4 => ?_)
    · exact ⟨kc hb4 (hS3.1), kc hb4 (hS3.2)⟩
    clear hK K
    have hS4 := hS4 (by decide)
    try simp only [Act.put, List.setIfInBounds_toArray, List.set_cons_zero, List.set_cons_succ]
    refine wpAnyX_take (i := 12) (oi := _) (v := ?_) rfl (by kernel_rfl) (by kernel_rfl) (by kernel_rfl) (by kernel_rfl) (fun _ _ _ h => h) (Or.inl ⟨by rfl, ?_⟩) hS4 ?_
    rotate_left 1
    · (intro w hSw; (try dsimp only at hSw); go_simp; (try with_reducible rfl))
    try simp only [Act.put, List.setIfInBounds_toArray, List.set_cons_zero, List.set_cons_succ]
    refine wpAnyX_take (i := 13) (oi := _) (v := ?_) rfl (by kernel_rfl) (by kernel_rfl) (by kernel_rfl) (by kernel_rfl) (fun _ _ _ h => h) (Or.inl ⟨by rfl, ?_⟩) hS4 ?_
    rotate_left 1
    · (intro w hSw; (try dsimp only at hSw); go_simp; (try with_reducible rfl))
    try simp only [Act.put, List.setIfInBounds_toArray, List.set_cons_zero, List.set_cons_succ]
    refine wpAnyX_one (i := 14) (o := _) rfl (by kernel_rfl) (fun K hK => ?_)
    have Xz4 := (((Xz.mono hb2).mono hb9).badly hb3 (by omega)).mono hb4
    have e0 := Xz4.c 0 rfl
    have e1 := Xz4.c 1 rfl
    have e2 := Xz4.c 2 rfl
    have ef := Xz4.f
    have el := Xz4.lt
    go_simp
    refine hK.out _ _ (fun _ => ?_) (fun hS5 => ?_)
    · first | exact ⟨kst3 (by omega) (hS4.1), kst3 (by omega) (hS4.2)⟩ | exact ⟨kc (Below.refl _ _) (hS4.1), kc (Below.refl _ _) (hS4.2)⟩
    clear hK K
    have hS5 := hS5 (by decide)
    try simp only [Act.put, List.setIfInBounds_toArray, List.set_cons_zero, List.set_cons_succ]
    refine wpAnyX_take (i := 15) (oi := _) (v := ?_) rfl (by kernel_rfl) (by kernel_rfl) (by kernel_rfl) (by kernel_rfl) (fun _ _ _ h => h) (Or.inl ⟨by rfl, ?_⟩) hS5 ?_
    rotate_left 1
    · (intro w hSw; (try dsimp only at hSw); go_simp; (try with_reducible rfl))
    change wpAnyX _ _ _ _ _ _ _ _ (Act.put _ (some 5) _) _
    try simp only [Act.put, List.setIfInBounds_toArray, List.set_cons_zero, List.set_cons_succ]
    refine wpAnyX_done (by kernel_rfl) ?_ _
    have hB2 : Below w.heap.size w w2 := chain hwW hb2 hwW.size
    have hB9 : Below w.heap.size w w9 := chain hB2 hb9 hB2.size
    have hB3 : Below w.heap.size w w3 := bad_below hB9 hb3 (by omega)
    have hB4 : Below w.heap.size w w4 := chain hB3 hb4 hB3.size
    have HQ := hid hq
    clear hzf hzt hR3 hb3 hb4 hq hA9
    go_wp2_with fail
    refine bodyPost_ret (v := mt 0 0 none 0 0 false) (by first | (simp [results, Try.results50, go_sem, *]; done) | (simp (disch := (first | omega | (simp; done) | (simp; omega))) [results, Try.results50, go_sem, *]; done) | (simp only [results, Try.results50]; go_simp; done)) rfl ⟨fun _ => rfl, fun zs k => ?_, ?_⟩
    · rw [HQ.out] at k; cases k
    · (repeat' (first | (with_reducible exact Below.refl _ _) | (with_reducible assumption) | (with_reducible refine Below.alloc ?_ ?_ _) | (with_reducible refine Below.drew ?_) | (with_reducible refine below_drewN ?_ _) | (with_reducible refine Below.setCell ?_ ?_ _) | (with_reducible refine chain ?_ (by assumption) ?_) | omega | (simp; done) | (simp; omega)))
  | some ys =>
    have yc0 : W.drew.cell? ⟨w.heap.size, 0, none⟩ = some (.int .i64 (n : Int)) := c0
    have yc1' : W.drew.cell? ⟨w.heap.size, 1, none⟩ = some (.slice A m c1) := c1'
    refine wp_region_x (fun w' => w'.cell? ⟨w.heap.size, 0, none⟩ = some (.int .i64 (n : Int)) ∧ w'.cell? ⟨w.heap.size, 1, none⟩ = some (.slice A m c1)) 1000 (by kernel_rfl) ⟨yc0, yc1'⟩ (fun hS0 => ?_)
    refine wpAnyX_take (i := 0) (oi := _) (v := ?_) rfl (by kernel_rfl) (by kernel_rfl) (by kernel_rfl) (by kernel_rfl) (fun _ _ _ h => h) (Or.inl ⟨by rfl, ?_⟩) hS0 ?_
    rotate_left 1
    · (intro w hSw; (try dsimp only at hSw); go_simp; (try with_reducible rfl))
    try simp only [Act.put, List.setIfInBounds_toArray, List.set_cons_zero, List.set_cons_succ]
    refine wpAnyX_take (i := 1) (oi := _) (v := ?_) rfl (by kernel_rfl) (by kernel_rfl) (by kernel_rfl) (by kernel_rfl) (fun _ _ _ h => h) (Or.inl ⟨by rfl, ?_⟩) hS0 ?_
    rotate_left 1
    · (intro w hSw; (try dsimp only at hSw); go_simp; (try with_reducible rfl))
    try simp only [Act.put, List.setIfInBounds_toArray, List.set_cons_zero, List.set_cons_succ]
    refine wpAnyX_take (i := 2) (oi := _) (v := ?_) rfl (by kernel_rfl) (by kernel_rfl) (by kernel_rfl) (by kernel_rfl) (fun _ _ _ h => h) (Or.inl ⟨by rfl, ?_⟩) hS0 ?_
    rotate_left 1
    · (intro w hSw; (try dsimp only at hSw); go_simp; (try with_reducible rfl))
    try simp only [Act.put, List.setIfInBounds_toArray, List.set_cons_zero, List.set_cons_succ]
    refine wpAnyX_take (i := 3) (oi := _) (v := ?_) rfl (by kernel_rfl) (by kernel_rfl) (by kernel_rfl) (by kernel_rfl) (fun _ _ _ h => h) (Or.inl ⟨by rfl, ?_⟩) hS0 ?_
    rotate_left 1
    · (intro w hSw; (try dsimp only at hSw); go_simp; (try with_reducible rfl))
    try simp only [Act.put, List.setIfInBounds_toArray, List.set_cons_zero, List.set_cons_succ]
    refine wpAnyX_take (i := 4) (oi := _) (v := ?_) rfl (by kernel_rfl) (by kernel_rfl) (by kernel_rfl) (by kernel_rfl) (fun _ _ _ h => h) (Or.inl ⟨by rfl, ?_⟩) hS0 ?_
    rotate_left 1
    · (intro w hSw; (try dsimp only at hSw); go_simp; (try with_reducible rfl))
    try simp only [Act.put, List.setIfInBounds_toArray, List.set_cons_zero, List.set_cons_succ]
    refine wpAnyX_take (i := 5) (oi := _) (v := ?_) rfl (by kernel_rfl) (by kernel_rfl) (by kernel_rfl) (by kernel_rfl) (fun _ _ _ h => h) (Or.inl ⟨by rfl, ?_⟩) hS0 ?_
    rotate_left 1
    · (intro w hSw; (try dsimp only at hSw); go_simp; (try with_reducible rfl))
    try simp only [Act.put, List.setIfInBounds_toArray, List.set_cons_zero, List.set_cons_succ]
    refine wpAnyX_take (i := 6) (oi := _) (v := ?_) rfl (by kernel_rfl) (by kernel_rfl) (by kernel_rfl) (by kernel_rfl) (fun _ _ _ h => h) (Or.inl ⟨by rfl, ?_⟩) hS0 ?_
    rotate_left 1
    · (intro w hSw; (try dsimp only at hSw); go_simp; (try with_reducible rfl))
    try simp only [Act.put, List.setIfInBounds_toArray, List.set_cons_zero, List.set_cons_succ]
    refine wpAnyX_take (i := 8) (oi := _) (v := ?_) rfl (by kernel_rfl) (by kernel_rfl) (by kernel_rfl) (by kernel_rfl) (fun _ _ _ h => h) (Or.inl ⟨by rfl, ?_⟩) hS0 ?_
    rotate_left 1
    · (intro w hSw; (try dsimp only at hSw); go_simp; (try with_reducible rfl))
    try simp only [Act.put, List.setIfInBounds_toArray, List.set_cons_zero, List.set_cons_succ]
    refine wpAnyX_one (i := 7) (o := _) rfl (by kernel_rfl) (fun K hK => ?_)
    go_simp
    (try simp only [hsh])
    refine (unit_s (N := D) (n := NN) EQ.out (by omega) d32 nn5).mono ?_
    rintro ee w2 ⟨rfl, hK2, hb20⟩
    have hb2 := undrewK hb20
    have hz2 := hb2.size
    (try simp only [World.size_drew] at hK2)
    refine hK.out _ _ (fun _ => ?_) (fun hS1 => ?_)
    · exact ⟨kc hb20 (hS0.1), kc hb20 (hS0.2)⟩
    clear hK K
    have hS1 := hS1 (by decide)
    try simp only [Act.put, List.setIfInBounds_toArray, List.set_cons_zero, List.set_cons_succ]
    refine wpAnyX_one (i := 9) (o := _) rfl (by kernel_rfl) (fun K hK => ?_)
    go_simp
    refine (lcol (r := D) (c := D) (k := s) (xs := tab NN (unitP D D)) hK2.rd (tab_len _ _) EQ.out hs nn5 d32 d32).mono ?_
    rintro ee w9 ⟨B9, cq9, rfl, hR9, hA9, hb9⟩
    have hz9 := hb9.size
    rw [EQ.out] at hR9
    obtain ⟨h9, o9, rfl, lh9⟩ := Rd.nz (xs := basL D s) hR9 (by rw [basL_len]; omega)
    have hg9 : w2.heap.size ≤ h9 := hA9 _ rfl
    refine hK.out _ _ (fun _ => ?_) (fun hS2 => ?_)
    · exact ⟨kc hb9 (hS1.1), kc hb9 (hS1.2)⟩
    clear hK K
    have hS2 := hS2 (by decide)
    try simp only [Act.put, List.setIfInBounds_toArray, List.set_cons_zero, List.set_cons_succ]
    refine wpAnyX_one (i := 10) (o := _) rfl (by kernel_rfl) (fun K hK => ?_)
    go_simp
    refine (lrun1 (n := n) (D := D) (m := m) (c1 := c1) (A := A) (gs := gs) (gc := w1.heap.size) (xs := basL D s) (HA.out.mono (chain (chain hwW hb2 hwW.size) hb9 (by omega))) (fun a ha => by have := (hAl a ha); omega) HM.out hm4 HG.out h1 h5 HD.out hR9 (by omega) lh9 basL_len (basL_ok DD.out) ((Xf.mono hb2).mono hb9)).mono ?_
    rintro ee w3 ⟨z, zs, h, o, cq, rfl, hl, hzf, hzt, hR3, hh3, hb3⟩
    have hz3 := bad_size hb3
    have Xf3 := ((Xf.mono hb2).mono hb9).bad hb3
    obtain rfl : z = false := by
      cases z
      · rfl
      · rw [hzt rfl] at hq; cases hq
    have f0 := Xf3.c 0 rfl
    have lf3 := Xf3.lt
    refine hK.out _ _ (fun _ => ?_) (fun hS3 => ?_)
    · exact ⟨kbad hb3 (by omega) (hS2.1), kbad hb3 (by omega) (hS2.2)⟩
    clear hK K
    have hS3 := hS3 (by decide)
    try simp only [Act.put, List.setIfInBounds_toArray, List.set_cons_zero, List.set_cons_succ]
    refine wpAnyX_one (i := 11) (o := _) rfl (by kernel_rfl) (fun K hK => ?_)
    go_simp
    refine (cmat_f f0).mono ?_
    rintro ee w4 ⟨rfl, hb4⟩
    have hz4 := hb4.size
    refine hK.out _ _ (fun _ => ?_) (fun hS4 => ?_)
    · exact ⟨kc hb4 (hS3.1), kc hb4 (hS3.2)⟩
    clear hK K
    have hS4 := hS4 (by decide)
    try simp only [Act.put, List.setIfInBounds_toArray, List.set_cons_zero, List.set_cons_succ]
    refine wpAnyX_take (i := 12) (oi := _) (v := ?_) rfl (by kernel_rfl) (by kernel_rfl) (by kernel_rfl) (by kernel_rfl) (fun _ _ _ h => h) (Or.inl ⟨by rfl, ?_⟩) hS4 ?_
    rotate_left 1
    · (intro w hSw; (try dsimp only at hSw); go_simp; (try with_reducible rfl))
    try simp only [Act.put, List.setIfInBounds_toArray, List.set_cons_zero, List.set_cons_succ]
    refine wpAnyX_take (i := 13) (oi := _) (v := ?_) rfl (by kernel_rfl) (by kernel_rfl) (by kernel_rfl) (by kernel_rfl) (fun _ _ _ h => h) (Or.inl ⟨by rfl, ?_⟩) hS4 ?_
    rotate_left 1
    · (intro w hSw; (try dsimp only at hSw); go_simp; (try with_reducible rfl))
    try simp only [Act.put, List.setIfInBounds_toArray, List.set_cons_zero, List.set_cons_succ]
    refine wpAnyX_one (i := 14) (o := _) rfl (by kernel_rfl) (fun K hK => ?_)
    have Xz4 := (((Xz.mono hb2).mono hb9).badly hb3 (by omega)).mono hb4
    have e0 := Xz4.c 0 rfl
    have e1 := Xz4.c 1 rfl
    have e2 := Xz4.c 2 rfl
    have ef := Xz4.f
    have el := Xz4.lt
    go_simp
    refine hK.out _ _ (fun _ => ?_) (fun hS5 => ?_)
    · first | exact ⟨kst3 (by omega) (hS4.1), kst3 (by omega) (hS4.2)⟩ | exact ⟨kc (Below.refl _ _) (hS4.1), kc (Below.refl _ _) (hS4.2)⟩
    clear hK K
    have hS5 := hS5 (by decide)
    try simp only [Act.put, List.setIfInBounds_toArray, List.set_cons_zero, List.set_cons_succ]
    refine wpAnyX_take (i := 15) (oi := _) (v := ?_) rfl (by kernel_rfl) (by kernel_rfl) (by kernel_rfl) (by kernel_rfl) (fun _ _ _ h => h) (Or.inl ⟨by rfl, ?_⟩) hS5 ?_
    rotate_left 1
    · (intro w hSw; (try dsimp only at hSw); go_simp; (try with_reducible rfl))
    change wpAnyX _ _ _ _ _ _ _ _ (Act.put _ (some 5) _) _
    try simp only [Act.put, List.setIfInBounds_toArray, List.set_cons_zero, List.set_cons_succ]
    refine wpAnyX_done (by kernel_rfl) ?_ _
    have hB2 : Below w.heap.size w w2 := chain hwW hb2 hwW.size
    have hB9 : Below w.heap.size w w9 := chain hB2 hb9 hB2.size
    have hB3 : Below w.heap.size w w3 := bad_below hB9 hb3 (by omega)
    have hB4 : Below w.heap.size w w4 := chain hB3 hb4 hB3.size
    have HR4 := hid (hR3.mono hb4)
    obtain ⟨rfl⟩ : zs = ys := Option.some.inj ((hzf rfl).symm.trans hq)
    have HQ := hid hq
    clear hzf hzt hR3 hb3 hb4 hq hA9
    go_wp2_with fail
    refine bodyPost_ret (v := mt (D : Int) 1 (some ⟨h, o, none⟩) D cq true) (by first | (simp [results, Try.results50, go_sem, *]; done) | (simp (disch := (first | omega | (simp; done) | (simp; omega))) [results, Try.results50, go_sem, *]; done) | (simp only [results, Try.results50]; go_simp; done)) rfl ⟨fun k => ?_, fun zs k => ?_, ?_⟩
    · rw [HQ.out] at k; cases k
    · rw [HQ.out] at k
      obtain rfl := Option.some.inj k
      refine ⟨some ⟨h, o, none⟩, cq, rfl, ?_⟩
      (repeat' (first | exact HR4.out | refine Rd.far ?_ (fun a ha => by obtain rfl := Option.some.inj ha; show h ≠ w.heap.size + 1; omega) _))
    · (repeat' (first | (with_reducible exact Below.refl _ _) | (with_reducible assumption) | (with_reducible refine Below.alloc ?_ ?_ _) | (with_reducible refine Below.drew ?_) | (with_reducible refine below_drewN ?_ _) | (with_reducible refine Below.setCell ?_ ?_ _) | (with_reducible refine chain ?_ (by assumption) ?_) | omega | (simp; done) | (simp; omega)))

end Go.Proofs.Ytncgccpkbneagaa
namespace Go.Proofs.Ytncgccpkbneagaa
open Go.RowKit RM
set_option linter.unusedVariables false
set_option linter.unusedSimpArgs false
attribute [local irreducible] World.setCell

open GM
set_option maxRecDepth 100000 in
set_option maxHeartbeats 4000000 in
theorem bigStateAfter {a0 : Int} {A : Option Addr} {n cp : Nat} {i : Int} {w : World} (hb : 1048576 < n) (hm : n ≤ maxLen) :
    Calls Try.prog 11 #[C4.circuitV a0 A n cp, .int .i64 i] w fun ee w' => ee = .returned (.bool true) ∧ Below w.heap.size w w' := by
  have hu : n ≤ 9223372036854775807 := by unfold maxLen at hm; omega
  have hb0 : (1048576 : Int) < (n : Int) := by omega
  have hb1 : 1048576 ≤ (1048576 : Int) := by omega
  have hb2 : (0 : Int) ≤ 1048576 := by omega
  go_enter Try.func11, Try.ntmps11
  go_wp2_with (fail)
  refine (C4.szCircuit_f hb0 hb1 hb2 hm).mono ?_
  rintro ee v ⟨rfl, hv⟩
  go_wp2_with (fail)
  go_ret
  refine ⟨rfl, ?_⟩
  (repeat' (first | (with_reducible exact Below.refl _ _) | (with_reducible assumption) | (with_reducible refine Below.alloc ?_ ?_ _) | (with_reducible refine Below.drew ?_) | (with_reducible refine below_drewN ?_ _) | (with_reducible refine Below.setCell ?_ ?_ _) | (with_reducible refine chain ?_ (by assumption) ?_) | omega | (simp; done) | (simp; omega)))

set_option maxRecDepth 100000 in
set_option maxHeartbeats 8000000 in
theorem lwStateAfter {a0 : Int} {A : Option Addr} {n cp : Nat} {xs : List C4.GateV} {i : Int} {R C : Int} {k : Nat} {zs : List D5} {ok : Bool} {w : World} (hS : ∀ (g : Nat) (w : World), C4.Rd C4.gateE w (some ⟨g, 0, none⟩) xs → g < w.heap.size → Calls Try.prog 50 #[C4.circuitV a0 (some ⟨g, 0, none⟩) n n, .int .i64 i] w fun ee w' => ∃ A cp, ee = .returned (mt R C A k cp ok) ∧ Rd w' A zs ∧ Below w.heap.size w w') (hI : ∀ (g : Nat) (w : World), C4.Rd C4.gateE w (some ⟨g, 0, none⟩) xs → Calls Try.prog 51 #[C4.circuitV a0 (some ⟨g, 0, none⟩) n n, .int .i64 i] w fun ee w' => ∃ A cp, ee = .returned (mt R C A k cp ok) ∧ Ow w' w.heap.size 37 A zs ∧ Below w.heap.size w w') (hz : zs.length = k) (hk : k ≤ 1048576) (hA : C4.Rd C4.gateE w A xs) (hn : xs.length = n) (hb : n ≤ 1048576) :
    Calls Try.prog 11 #[C4.circuitV a0 A n cp, .int .i64 i] w fun ee w' => ee = .returned (.bool true) ∧ Below w.heap.size w w' := by
  have HA := hid hA
  have HN := hid hn
  have HS := hid hS
  have HI := hid hI
  have HZ := hid hz
  have s0 : ¬ (1048576 - (n : Int) < 0) := by omega
  have s1 : (n : Int) ≤ 1048576 := by omega
  have s2 : 0 ≤ 1048576 - (n : Int) := by omega
  have u0 : ¬ (1 + 5 * (k : Int) < 0) := by omega
  have u1 : 0 ≤ 1 + 5 * (k : Int) := by omega
  have u2 : ¬ (1 + 3 * (n : Int) < 0) := by omega
  have u3 : 0 ≤ 1 + 3 * (n : Int) := by omega
  clear hA hn hS hI hz
  go_enter Try.func11, Try.ntmps11
  go_wp2_with (fail)
  refine (C4.szCircuit_t s1 (by decide)).mono ?_
  rintro ee w1 ⟨rfl, hb1⟩
  have hL1 : Below w.heap.size w w1 := by (repeat' (first | (with_reducible exact Below.refl _ _) | (with_reducible assumption) | (with_reducible refine Below.alloc ?_ ?_ _) | (with_reducible refine Below.drew ?_) | (with_reducible refine below_drewN ?_ _) | (with_reducible refine Below.setCell ?_ ?_ _) | (with_reducible refine chain ?_ (by assumption) ?_) | omega | (simp; done) | (simp; omega)))
  have hz1 := hb1.size
  (try simp only [World.size_alloc] at hz1)
  have hB1 : Below w.heap.size w w1 := hL1
  have k1_0_0 : w1.cell? ⟨w.heap.size, 0, none⟩ = some (.int .i64 a0) := (hb1.cell (p := ⟨w.heap.size, 0, none⟩) (by show w.heap.size < _; (try simp only [World.size_alloc]); omega)).trans (by first | rfl | (simp; done) | (simp [*]; done))
  have k1_0_1 : w1.cell? ⟨w.heap.size, 1, none⟩ = some (.slice A n cp) := (hb1.cell (p := ⟨w.heap.size, 1, none⟩) (by show w.heap.size < _; (try simp only [World.size_alloc]); omega)).trans (by first | rfl | (simp; done) | (simp [*]; done))
  have bl1_0 : w.heap.size < w1.heap.size := World.block_lt_of_cell? _ _ k1_0_0
  clear hb1 hL1
  go_wp2_with (fail)
  refine (C4.toCircuit (xs1 := xs) ?_ HN.out hb).mono ?_
  · exact HA.out.mono (by (repeat' (first | (with_reducible exact Below.refl _ _) | (with_reducible assumption) | (with_reducible refine Below.alloc ?_ ?_ _) | (with_reducible refine Below.drew ?_) | (with_reducible refine below_drewN ?_ _) | (with_reducible refine Below.setCell ?_ ?_ _) | (with_reducible refine chain ?_ (by assumption) ?_) | omega | (simp; done) | (simp; omega))))
  rintro ee w2 ⟨g2, rfl, hK2, hg2, hb2⟩
  have hL2 : Below w1.heap.size w1 w2 := by (repeat' (first | (with_reducible exact Below.refl _ _) | (with_reducible assumption) | (with_reducible refine Below.alloc ?_ ?_ _) | (with_reducible refine Below.drew ?_) | (with_reducible refine below_drewN ?_ _) | (with_reducible refine Below.setCell ?_ ?_ _) | (with_reducible refine chain ?_ (by assumption) ?_) | omega | (simp; done) | (simp; omega)))
  have hz2 := hb2.size
  (try simp only [World.size_alloc] at hz2)
  have hB2 : Below w.heap.size w w2 := chain hB1 hL2 hB1.size
  have k2_0_0 : w2.cell? ⟨w.heap.size, 0, none⟩ = some (.int .i64 a0) := (hL2.cell (p := ⟨w.heap.size, 0, none⟩) (by show w.heap.size < w1.heap.size; omega)).trans k1_0_0
  have k2_0_1 : w2.cell? ⟨w.heap.size, 1, none⟩ = some (.slice A n cp) := (hL2.cell (p := ⟨w.heap.size, 1, none⟩) (by show w.heap.size < w1.heap.size; omega)).trans k1_0_1
  have bl2_0 : w.heap.size < w2.heap.size := World.block_lt_of_cell? _ _ k2_0_0
  clear hb2 hL2
  clear k1_0_0 k1_0_1
  go_wp2_with (fail)
  refine (HS.out _ _ ?_ hK2.lt).mono ?_
  · exact hK2.rd
  rintro ee w3 ⟨A3, cp3, rfl, hR3, hb3⟩
  have hL3 : Below w2.heap.size w2 w3 := by (repeat' (first | (with_reducible exact Below.refl _ _) | (with_reducible assumption) | (with_reducible refine Below.alloc ?_ ?_ _) | (with_reducible refine Below.drew ?_) | (with_reducible refine below_drewN ?_ _) | (with_reducible refine Below.setCell ?_ ?_ _) | (with_reducible refine chain ?_ (by assumption) ?_) | omega | (simp; done) | (simp; omega)))
  have hz3 := hb3.size
  (try simp only [World.size_alloc] at hz3)
  have hB3 : Below w.heap.size w w3 := chain hB2 hL3 hB2.size
  have k3_0_0 : w3.cell? ⟨w.heap.size, 0, none⟩ = some (.int .i64 a0) := (hL3.cell (p := ⟨w.heap.size, 0, none⟩) (by show w.heap.size < w2.heap.size; omega)).trans k2_0_0
  have k3_0_1 : w3.cell? ⟨w.heap.size, 1, none⟩ = some (.slice A n cp) := (hL3.cell (p := ⟨w.heap.size, 1, none⟩) (by show w.heap.size < w2.heap.size; omega)).trans k2_0_1
  have bl3_0 : w.heap.size < w3.heap.size := World.block_lt_of_cell? _ _ k3_0_0
  clear hb3 hL3
  clear k2_0_0 k2_0_1
  clear hK2
  have HW3 : Hid (RdB w3 w3.heap.size A3 zs) := hR3.b (Nat.le_refl _)
  clear hR3
  go_wp2_with (fail)
  refine (C4.toCircuit (xs1 := xs) ?_ HN.out hb).mono ?_
  · exact HA.out.mono (by (repeat' (first | (with_reducible exact Below.refl _ _) | (with_reducible assumption) | (with_reducible refine Below.alloc ?_ ?_ _) | (with_reducible refine Below.drew ?_) | (with_reducible refine below_drewN ?_ _) | (with_reducible refine Below.setCell ?_ ?_ _) | (with_reducible refine chain ?_ (by assumption) ?_) | omega | (simp; done) | (simp; omega))))
  rintro ee w4 ⟨g4, rfl, hK4, hg4, hb4⟩
  have hL4 : Below w3.heap.size w3 w4 := by (repeat' (first | (with_reducible exact Below.refl _ _) | (with_reducible assumption) | (with_reducible refine Below.alloc ?_ ?_ _) | (with_reducible refine Below.drew ?_) | (with_reducible refine below_drewN ?_ _) | (with_reducible refine Below.setCell ?_ ?_ _) | (with_reducible refine chain ?_ (by assumption) ?_) | omega | (simp; done) | (simp; omega)))
  have hz4 := hb4.size
  (try simp only [World.size_alloc] at hz4)
  have hB4 : Below w.heap.size w w4 := chain hB3 hL4 hB3.size
  have k4_0_0 : w4.cell? ⟨w.heap.size, 0, none⟩ = some (.int .i64 a0) := (hL4.cell (p := ⟨w.heap.size, 0, none⟩) (by show w.heap.size < w3.heap.size; omega)).trans k3_0_0
  have k4_0_1 : w4.cell? ⟨w.heap.size, 1, none⟩ = some (.slice A n cp) := (hL4.cell (p := ⟨w.heap.size, 1, none⟩) (by show w.heap.size < w3.heap.size; omega)).trans k3_0_1
  have k4_1_0 : w4.cell? ⟨w3.heap.size, 0, none⟩ = some (.int .i64 R) := (hb4.cell (p := ⟨w3.heap.size, 0, none⟩) (by show w3.heap.size < _; (try simp only [World.size_alloc]); omega)).trans (by first | rfl | (simp; done) | (simp [*]; done))
  have k4_1_1 : w4.cell? ⟨w3.heap.size, 1, none⟩ = some (.int .i64 C) := (hb4.cell (p := ⟨w3.heap.size, 1, none⟩) (by show w3.heap.size < _; (try simp only [World.size_alloc]); omega)).trans (by first | rfl | (simp; done) | (simp [*]; done))
  have k4_1_2 : w4.cell? ⟨w3.heap.size, 2, none⟩ = some (.slice A3 k cp3) := (hb4.cell (p := ⟨w3.heap.size, 2, none⟩) (by show w3.heap.size < _; (try simp only [World.size_alloc]); omega)).trans (by first | rfl | (simp; done) | (simp [*]; done))
  have bl4_0 : w.heap.size < w4.heap.size := World.block_lt_of_cell? _ _ k4_0_0
  have bl4_1 : w3.heap.size < w4.heap.size := World.block_lt_of_cell? _ _ k4_1_0
  have HW4 := hid (HW3.out.mono hL4)
  clear hb4 hL4
  clear k3_0_0 k3_0_1 HW3
  (try simp only [World.size_alloc] at hg4)
  have HX4 : Hid (C4.Ow C4.gateE w4 (w3.heap.size + 1) 59 (some ⟨g4, 0, none⟩) xs) := hK4.ow (by omega)
  clear hK4
  have hr_X := HX4.out.row
  go_wp2_with (fail)
  refine (HI.out _ _ ?_).mono ?_
  · exact HX4.out.rd.mono (by (repeat' (first | (with_reducible exact Below.refl _ _) | (with_reducible assumption) | (with_reducible refine Below.alloc ?_ ?_ _) | (with_reducible refine Below.drew ?_) | (with_reducible refine below_drewN ?_ _) | (with_reducible refine Below.setCell ?_ ?_ _) | (with_reducible refine chain ?_ (by assumption) ?_) | omega | (simp; done) | (simp; omega))))
  rintro ee w5 ⟨A5, cp5, rfl, hO5, hb5⟩
  have hL5 : Below w4.heap.size w4 w5 := by (repeat' (first | (with_reducible exact Below.refl _ _) | (with_reducible assumption) | (with_reducible refine Below.alloc ?_ ?_ _) | (with_reducible refine Below.drew ?_) | (with_reducible refine below_drewN ?_ _) | (with_reducible refine Below.setCell ?_ ?_ _) | (with_reducible refine chain ?_ (by assumption) ?_) | omega | (simp; done) | (simp; omega)))
  have hz5 := hb5.size
  (try simp only [World.size_alloc] at hz5)
  have hB5 : Below w.heap.size w w5 := chain hB4 hL5 hB4.size
  have k5_0_0 : w5.cell? ⟨w.heap.size, 0, none⟩ = some (.int .i64 a0) := (hL5.cell (p := ⟨w.heap.size, 0, none⟩) (by show w.heap.size < w4.heap.size; omega)).trans k4_0_0
  have k5_0_1 : w5.cell? ⟨w.heap.size, 1, none⟩ = some (.slice A n cp) := (hL5.cell (p := ⟨w.heap.size, 1, none⟩) (by show w.heap.size < w4.heap.size; omega)).trans k4_0_1
  have k5_1_0 : w5.cell? ⟨w3.heap.size, 0, none⟩ = some (.int .i64 R) := (hL5.cell (p := ⟨w3.heap.size, 0, none⟩) (by show w3.heap.size < w4.heap.size; omega)).trans k4_1_0
  have k5_1_1 : w5.cell? ⟨w3.heap.size, 1, none⟩ = some (.int .i64 C) := (hL5.cell (p := ⟨w3.heap.size, 1, none⟩) (by show w3.heap.size < w4.heap.size; omega)).trans k4_1_1
  have k5_1_2 : w5.cell? ⟨w3.heap.size, 2, none⟩ = some (.slice A3 k cp3) := (hL5.cell (p := ⟨w3.heap.size, 2, none⟩) (by show w3.heap.size < w4.heap.size; omega)).trans k4_1_2
  have k5_2_0 : w5.cell? ⟨w4.heap.size, 0, none⟩ = some (.int .i64 a0) := (hb5.cell (p := ⟨w4.heap.size, 0, none⟩) (by show w4.heap.size < _; (try simp only [World.size_alloc]); omega)).trans (by first | rfl | (simp; done) | (simp [*]; done))
  have k5_2_1 : w5.cell? ⟨w4.heap.size, 1, none⟩ = some (.slice (some ⟨g4, 0, none⟩) n n) := (hb5.cell (p := ⟨w4.heap.size, 1, none⟩) (by show w4.heap.size < _; (try simp only [World.size_alloc]); omega)).trans (by first | rfl | (simp; done) | (simp [*]; done))
  have bl5_0 : w.heap.size < w5.heap.size := World.block_lt_of_cell? _ _ k5_0_0
  have bl5_1 : w3.heap.size < w5.heap.size := World.block_lt_of_cell? _ _ k5_1_0
  have bl5_2 : w4.heap.size < w5.heap.size := World.block_lt_of_cell? _ _ k5_2_0
  have HW5 := hid (HW4.out.mono hL5)
  have HX5 := hid (HX4.out.mono hL5)
  clear hb5 hL5
  clear k4_0_0 k4_0_1 k4_1_0 k4_1_1 k4_1_2 HW4 HX4
  (try simp only [World.size_alloc] at hO5)
  have HG5 : Hid (Ow w5 (w4.heap.size + 1) 37 A5 zs) := hO5.dn (by omega)
  clear hO5
  have hr_G := HG5.out.row
  go_wp2_with (fail)
  refine (eqm (xs := zs) ?_ ?_ HZ.out hk).mono ?_
  · exact HG5.out.rd.mono (by (repeat' (first | (with_reducible exact Below.refl _ _) | (with_reducible assumption) | (with_reducible refine Below.alloc ?_ ?_ _) | (with_reducible refine Below.drew ?_) | (with_reducible refine below_drewN ?_ _) | (with_reducible refine Below.setCell ?_ ?_ _) | (with_reducible refine chain ?_ (by assumption) ?_) | omega | (simp; done) | (simp; omega))))
  · exact HW5.out.rd.mono (by (repeat' (first | (with_reducible exact Below.refl _ _) | (with_reducible assumption) | (with_reducible refine Below.alloc ?_ ?_ _) | (with_reducible refine Below.drew ?_) | (with_reducible refine below_drewN ?_ _) | (with_reducible refine Below.setCell ?_ ?_ _) | (with_reducible refine chain ?_ (by assumption) ?_) | omega | (simp; done) | (simp; omega))))
  rintro ee w6 ⟨rfl, hb6⟩
  have hL6 : Below w5.heap.size w5 w6 := by (repeat' (first | (with_reducible exact Below.refl _ _) | (with_reducible assumption) | (with_reducible refine Below.alloc ?_ ?_ _) | (with_reducible refine Below.drew ?_) | (with_reducible refine below_drewN ?_ _) | (with_reducible refine Below.setCell ?_ ?_ _) | (with_reducible refine chain ?_ (by assumption) ?_) | omega | (simp; done) | (simp; omega)))
  have hz6 := hb6.size
  (try simp only [World.size_alloc] at hz6)
  have hB6 : Below w.heap.size w w6 := chain hB5 hL6 hB5.size
  have k6_0_0 : w6.cell? ⟨w.heap.size, 0, none⟩ = some (.int .i64 a0) := (hL6.cell (p := ⟨w.heap.size, 0, none⟩) (by show w.heap.size < w5.heap.size; omega)).trans k5_0_0
  have k6_0_1 : w6.cell? ⟨w.heap.size, 1, none⟩ = some (.slice A n cp) := (hL6.cell (p := ⟨w.heap.size, 1, none⟩) (by show w.heap.size < w5.heap.size; omega)).trans k5_0_1
  have k6_1_0 : w6.cell? ⟨w3.heap.size, 0, none⟩ = some (.int .i64 R) := (hL6.cell (p := ⟨w3.heap.size, 0, none⟩) (by show w3.heap.size < w5.heap.size; omega)).trans k5_1_0
  have k6_1_1 : w6.cell? ⟨w3.heap.size, 1, none⟩ = some (.int .i64 C) := (hL6.cell (p := ⟨w3.heap.size, 1, none⟩) (by show w3.heap.size < w5.heap.size; omega)).trans k5_1_1
  have k6_1_2 : w6.cell? ⟨w3.heap.size, 2, none⟩ = some (.slice A3 k cp3) := (hL6.cell (p := ⟨w3.heap.size, 2, none⟩) (by show w3.heap.size < w5.heap.size; omega)).trans k5_1_2
  have k6_2_0 : w6.cell? ⟨w4.heap.size, 0, none⟩ = some (.int .i64 a0) := (hL6.cell (p := ⟨w4.heap.size, 0, none⟩) (by show w4.heap.size < w5.heap.size; omega)).trans k5_2_0
  have k6_2_1 : w6.cell? ⟨w4.heap.size, 1, none⟩ = some (.slice (some ⟨g4, 0, none⟩) n n) := (hL6.cell (p := ⟨w4.heap.size, 1, none⟩) (by show w4.heap.size < w5.heap.size; omega)).trans k5_2_1
  have k6_3_0 : w6.cell? ⟨w5.heap.size, 0, none⟩ = some (.int .i64 R) := (hb6.cell (p := ⟨w5.heap.size, 0, none⟩) (by show w5.heap.size < _; (try simp only [World.size_alloc]); omega)).trans (by first | rfl | (simp; done) | (simp [*]; done))
  have k6_3_1 : w6.cell? ⟨w5.heap.size, 1, none⟩ = some (.int .i64 C) := (hb6.cell (p := ⟨w5.heap.size, 1, none⟩) (by show w5.heap.size < _; (try simp only [World.size_alloc]); omega)).trans (by first | rfl | (simp; done) | (simp [*]; done))
  have k6_3_2 : w6.cell? ⟨w5.heap.size, 2, none⟩ = some (.slice A5 k cp5) := (hb6.cell (p := ⟨w5.heap.size, 2, none⟩) (by show w5.heap.size < _; (try simp only [World.size_alloc]); omega)).trans (by first | rfl | (simp; done) | (simp [*]; done))
  have bl6_0 : w.heap.size < w6.heap.size := World.block_lt_of_cell? _ _ k6_0_0
  have bl6_1 : w3.heap.size < w6.heap.size := World.block_lt_of_cell? _ _ k6_1_0
  have bl6_2 : w4.heap.size < w6.heap.size := World.block_lt_of_cell? _ _ k6_2_0
  have bl6_3 : w5.heap.size < w6.heap.size := World.block_lt_of_cell? _ _ k6_3_0
  have HW6 := hid (HW5.out.mono hL6)
  have HX6 := hid (HX5.out.mono hL6)
  have HG6 := hid (HG5.out.mono hL6)
  clear hb6 hL6
  clear k5_0_0 k5_0_1 k5_1_0 k5_1_1 k5_1_2 k5_2_0 k5_2_1 HW5 HX5 HG5
  go_wp2_with (fail)
  go_cut [49] (fun s49 wx => CutG (s49 = .bool false) (wx.cell? ⟨w.heap.size, 0, none⟩ = some (.int .i64 a0) ∧ wx.cell? ⟨w.heap.size, 1, none⟩ = some (.slice A n cp) ∧ wx.cell? ⟨w3.heap.size, 0, none⟩ = some (.int .i64 R) ∧ wx.cell? ⟨w3.heap.size, 1, none⟩ = some (.int .i64 C) ∧ wx.cell? ⟨w3.heap.size, 2, none⟩ = some (.slice A3 k cp3) ∧ wx.cell? ⟨w4.heap.size, 0, none⟩ = some (.int .i64 a0) ∧ wx.cell? ⟨w4.heap.size, 1, none⟩ = some (.slice (some ⟨g4, 0, none⟩) n n) ∧ wx.cell? ⟨w5.heap.size, 0, none⟩ = some (.int .i64 R) ∧ wx.cell? ⟨w5.heap.size, 1, none⟩ = some (.int .i64 C) ∧ wx.cell? ⟨w5.heap.size, 2, none⟩ = some (.slice A5 k cp5) ∧ Hid (RdB wx w3.heap.size A3 zs) ∧ Hid (C4.Ow C4.gateE wx (w3.heap.size + 1) 59 (some ⟨g4, 0, none⟩) xs) ∧ Hid (Ow wx (w4.heap.size + 1) 37 A5 zs) ∧ w6.heap.size ≤ wx.heap.size ∧ Below w.heap.size w wx))
  case first =>
    have yk6_0_0 : w6.drew.cell? ⟨w.heap.size, 0, none⟩ = some (.int .i64 a0) := k6_0_0
    have yk6_0_1 : w6.drew.cell? ⟨w.heap.size, 1, none⟩ = some (.slice A n cp) := k6_0_1
    have yk6_1_0 : w6.drew.cell? ⟨w3.heap.size, 0, none⟩ = some (.int .i64 R) := k6_1_0
    have yk6_1_1 : w6.drew.cell? ⟨w3.heap.size, 1, none⟩ = some (.int .i64 C) := k6_1_1
    have yk6_1_2 : w6.drew.cell? ⟨w3.heap.size, 2, none⟩ = some (.slice A3 k cp3) := k6_1_2
    have yk6_2_0 : w6.drew.cell? ⟨w4.heap.size, 0, none⟩ = some (.int .i64 a0) := k6_2_0
    have yk6_2_1 : w6.drew.cell? ⟨w4.heap.size, 1, none⟩ = some (.slice (some ⟨g4, 0, none⟩) n n) := k6_2_1
    have yk6_3_0 : w6.drew.cell? ⟨w5.heap.size, 0, none⟩ = some (.int .i64 R) := k6_3_0
    have yk6_3_1 : w6.drew.cell? ⟨w5.heap.size, 1, none⟩ = some (.int .i64 C) := k6_3_1
    have yk6_3_2 : w6.drew.cell? ⟨w5.heap.size, 2, none⟩ = some (.slice A5 k cp5) := k6_3_2
    have hBz := hB6.size
    go_region_held3 (fun w' => w'.cell? ⟨w.heap.size, 0, none⟩ = some (.int .i64 a0) ∧ w'.cell? ⟨w.heap.size, 1, none⟩ = some (.slice A n cp) ∧ w'.cell? ⟨w3.heap.size, 0, none⟩ = some (.int .i64 R) ∧ w'.cell? ⟨w3.heap.size, 1, none⟩ = some (.int .i64 C) ∧ w'.cell? ⟨w3.heap.size, 2, none⟩ = some (.slice A3 k cp3) ∧ w'.cell? ⟨w4.heap.size, 0, none⟩ = some (.int .i64 a0) ∧ w'.cell? ⟨w4.heap.size, 1, none⟩ = some (.slice (some ⟨g4, 0, none⟩) n n) ∧ w'.cell? ⟨w5.heap.size, 0, none⟩ = some (.int .i64 R) ∧ w'.cell? ⟨w5.heap.size, 1, none⟩ = some (.int .i64 C) ∧ w'.cell? ⟨w5.heap.size, 2, none⟩ = some (.slice A5 k cp5)) (first | (with_reducible exact ⟨yk6_0_0, yk6_0_1, yk6_1_0, yk6_1_1, yk6_1_2, yk6_2_0, yk6_2_1, yk6_3_0, yk6_3_1, yk6_3_2⟩) | (with_reducible exact ⟨k6_0_0, k6_0_1, k6_1_0, k6_1_1, k6_1_2, k6_2_0, k6_2_1, k6_3_0, k6_3_1, k6_3_2⟩) | (go_split_ands; with_reducible exact ⟨kc hv0 (by with_reducible assumption), kc hv0 (by with_reducible assumption), kc hv0 (by with_reducible assumption), kc hv0 (by with_reducible assumption), kc hv0 (by with_reducible assumption), kc hv0 (by with_reducible assumption), kc hv0 (by with_reducible assumption), kc hv0 (by with_reducible assumption), kc hv0 (by with_reducible assumption), kc hv0 (by with_reducible assumption)⟩) | (go_split_ands; with_reducible exact ⟨kc hv1 (by with_reducible assumption), kc hv1 (by with_reducible assumption), kc hv1 (by with_reducible assumption), kc hv1 (by with_reducible assumption), kc hv1 (by with_reducible assumption), kc hv1 (by with_reducible assumption), kc hv1 (by with_reducible assumption), kc hv1 (by with_reducible assumption), kc hv1 (by with_reducible assumption), kc hv1 (by with_reducible assumption)⟩)) (first | (go_at_call 46; ((with_reducible refine (C4.toCircuit (xs1 := xs) ?_ HN.out hb).mono ?_); (exact HA.out.mono (by (repeat' (first | (with_reducible exact Below.refl _ _) | (with_reducible assumption) | (with_reducible refine Below.alloc ?_ ?_ _) | (with_reducible refine Below.drew ?_) | (with_reducible refine below_drewN ?_ _) | (with_reducible refine Below.setCell ?_ ?_ _) | (with_reducible refine chain ?_ (by assumption) ?_) | omega | (simp; done) | (simp; omega))))); rintro ee v0 ⟨g7, rfl, hK0, hg7, hv0⟩; have hq0 := hv0.size; (try simp only [World.size_drew, World.size_alloc] at hq0))) | (go_at_call 48; ((with_reducible refine (C4.eqCircuit (xs1 := xs) ?_ ?_ HN.out hb).mono ?_); (exact HX6.out.rd.mono (by (repeat' (first | (with_reducible exact Below.refl _ _) | (with_reducible assumption) | (with_reducible refine Below.alloc ?_ ?_ _) | (with_reducible refine Below.drew ?_) | (with_reducible refine below_drewN ?_ _) | (with_reducible refine Below.setCell ?_ ?_ _) | (with_reducible refine chain ?_ (by assumption) ?_) | omega | (simp; done) | (simp; omega))))); (exact hK0.rd); rintro ee v1 ⟨rfl, hv1⟩; have hq1 := hv1.size; (try simp only [World.size_drew, World.size_alloc] at hq1))))
    all_goals (go_wp2_with fail; go_meet)
    all_goals go_split_ands
    all_goals (refine ⟨rfl, (by with_reducible assumption), (by with_reducible assumption), (by with_reducible assumption), (by with_reducible assumption), (by with_reducible assumption), (by with_reducible assumption), (by with_reducible assumption), (by with_reducible assumption), (by with_reducible assumption), (by with_reducible assumption), (by exact HW6.out.mono (by (repeat' (first | (with_reducible exact Below.refl _ _) | (with_reducible assumption) | (with_reducible refine Below.alloc ?_ ?_ _) | (with_reducible refine Below.drew ?_) | (with_reducible refine below_drewN ?_ _) | (with_reducible refine Below.setCell ?_ ?_ _) | (with_reducible refine chain ?_ (by assumption) ?_) | omega | (simp; done) | (simp; omega))))), (by exact HX6.out.mono (by (repeat' (first | (with_reducible exact Below.refl _ _) | (with_reducible assumption) | (with_reducible refine Below.alloc ?_ ?_ _) | (with_reducible refine Below.drew ?_) | (with_reducible refine below_drewN ?_ _) | (with_reducible refine Below.setCell ?_ ?_ _) | (with_reducible refine chain ?_ (by assumption) ?_) | omega | (simp; done) | (simp; omega))))), (by exact HG6.out.mono (by (repeat' (first | (with_reducible exact Below.refl _ _) | (with_reducible assumption) | (with_reducible refine Below.alloc ?_ ?_ _) | (with_reducible refine Below.drew ?_) | (with_reducible refine below_drewN ?_ _) | (with_reducible refine Below.setCell ?_ ?_ _) | (with_reducible refine chain ?_ (by assumption) ?_) | omega | (simp; done) | (simp; omega))))), (by (try simp only [World.size_alloc, World.size_drew, World.size_setCell]); omega), (by (repeat' (first | (with_reducible exact Below.refl _ _) | (with_reducible assumption) | (with_reducible refine Below.alloc ?_ ?_ _) | (with_reducible refine Below.drew ?_) | (with_reducible refine below_drewN ?_ _) | (with_reducible refine Below.setCell ?_ ?_ _) | (with_reducible refine chain ?_ (by assumption) ?_) | omega | (simp; done) | (simp; omega))))⟩)
  case rest =>
    obtain ⟨w7, rfl⟩ : ∃ w7, w7 = wc := ⟨_, rfl⟩
    clear k6_0_0 k6_0_1 k6_1_0 k6_1_1 k6_1_2 k6_2_0 k6_2_1 k6_3_0 k6_3_1 k6_3_2 HW6 HX6 HG6
    obtain ⟨rfl, k7_0_0, k7_0_1, k7_1_0, k7_1_1, k7_1_2, k7_2_0, k7_2_1, k7_3_0, k7_3_1, k7_3_2, HW7, HX7, HG7, hz7, hB7⟩ := hcut
    have bl7_0 : w.heap.size < w7.heap.size := World.block_lt_of_cell? _ _ k7_0_0
    have bl7_1 : w3.heap.size < w7.heap.size := World.block_lt_of_cell? _ _ k7_1_0
    have bl7_2 : w4.heap.size < w7.heap.size := World.block_lt_of_cell? _ _ k7_2_0
    have bl7_3 : w5.heap.size < w7.heap.size := World.block_lt_of_cell? _ _ k7_3_0
    go_wp2_with (fail)
    refine (C4.markCircuit (B := w3.heap.size + 1) (xs1 := xs) ?_ HN.out hb (by decide) (by decide)).mono ?_
    · exact HX7.out
    rintro ee w8 ⟨rfl, hO8, hG8⟩
    have hz8 := hG8.size
    have hB8 : Below w.heap.size w w8 := Below.grown hB7 hG8 hB7.size (fun r hr => by have := hr_X r hr; omega)
    have k8_0_0 : w8.cell? ⟨w.heap.size, 0, none⟩ = some (.int .i64 a0) := hG8.cell k7_0_0 (fun e => by have := hr_X (w.heap.size) e.symm; omega)
    have k8_0_1 : w8.cell? ⟨w.heap.size, 1, none⟩ = some (.slice A n cp) := hG8.cell k7_0_1 (fun e => by have := hr_X (w.heap.size) e.symm; omega)
    have k8_1_0 : w8.cell? ⟨w3.heap.size, 0, none⟩ = some (.int .i64 R) := hG8.cell k7_1_0 (fun e => by have := hr_X (w3.heap.size) e.symm; omega)
    have k8_1_1 : w8.cell? ⟨w3.heap.size, 1, none⟩ = some (.int .i64 C) := hG8.cell k7_1_1 (fun e => by have := hr_X (w3.heap.size) e.symm; omega)
    have k8_1_2 : w8.cell? ⟨w3.heap.size, 2, none⟩ = some (.slice A3 k cp3) := hG8.cell k7_1_2 (fun e => by have := hr_X (w3.heap.size) e.symm; omega)
    have k8_2_0 : w8.cell? ⟨w4.heap.size, 0, none⟩ = some (.int .i64 a0) := hG8.cell k7_2_0 (fun e => by have := hr_X (w4.heap.size) e.symm; omega)
    have k8_2_1 : w8.cell? ⟨w4.heap.size, 1, none⟩ = some (.slice (some ⟨g4, 0, none⟩) n n) := hG8.cell k7_2_1 (fun e => by have := hr_X (w4.heap.size) e.symm; omega)
    have k8_3_0 : w8.cell? ⟨w5.heap.size, 0, none⟩ = some (.int .i64 R) := hG8.cell k7_3_0 (fun e => by have := hr_X (w5.heap.size) e.symm; omega)
    have k8_3_1 : w8.cell? ⟨w5.heap.size, 1, none⟩ = some (.int .i64 C) := hG8.cell k7_3_1 (fun e => by have := hr_X (w5.heap.size) e.symm; omega)
    have k8_3_2 : w8.cell? ⟨w5.heap.size, 2, none⟩ = some (.slice A5 k cp5) := hG8.cell k7_3_2 (fun e => by have := hr_X (w5.heap.size) e.symm; omega)
    have HW8 := hid (HW7.out.grown hG8 (fun r hr => by have := hr_X r hr; omega))
    have HG8 := hid (HG7.out.grown hG8 (fun r hr => by have := hr_X r hr; omega))
    have bl8_0 : w.heap.size < w8.heap.size := World.block_lt_of_cell? _ _ k8_0_0
    have bl8_1 : w3.heap.size < w8.heap.size := World.block_lt_of_cell? _ _ k8_1_0
    have bl8_2 : w4.heap.size < w8.heap.size := World.block_lt_of_cell? _ _ k8_2_0
    have bl8_3 : w5.heap.size < w8.heap.size := World.block_lt_of_cell? _ _ k8_3_0
    have HX8 := hid hO8
    clear hO8 hG8
    clear k7_0_0 k7_0_1 k7_1_0 k7_1_1 k7_1_2 k7_2_0 k7_2_1 k7_3_0 k7_3_1 k7_3_2 HW7 HG7 HX7
    clear HX8
    go_wp2_with (fail)
    refine (eqm (xs := zs) ?_ ?_ HZ.out hk).mono ?_
    · exact HG8.out.rd.mono (by (repeat' (first | (with_reducible exact Below.refl _ _) | (with_reducible assumption) | (with_reducible refine Below.alloc ?_ ?_ _) | (with_reducible refine Below.drew ?_) | (with_reducible refine below_drewN ?_ _) | (with_reducible refine Below.setCell ?_ ?_ _) | (with_reducible refine chain ?_ (by assumption) ?_) | omega | (simp; done) | (simp; omega))))
    · exact HW8.out.rd.mono (by (repeat' (first | (with_reducible exact Below.refl _ _) | (with_reducible assumption) | (with_reducible refine Below.alloc ?_ ?_ _) | (with_reducible refine Below.drew ?_) | (with_reducible refine below_drewN ?_ _) | (with_reducible refine Below.setCell ?_ ?_ _) | (with_reducible refine chain ?_ (by assumption) ?_) | omega | (simp; done) | (simp; omega))))
    rintro ee w9 ⟨rfl, hb9⟩
    have hL9 : Below w8.heap.size w8 w9 := by (repeat' (first | (with_reducible exact Below.refl _ _) | (with_reducible assumption) | (with_reducible refine Below.alloc ?_ ?_ _) | (with_reducible refine Below.drew ?_) | (with_reducible refine below_drewN ?_ _) | (with_reducible refine Below.setCell ?_ ?_ _) | (with_reducible refine chain ?_ (by assumption) ?_) | omega | (simp; done) | (simp; omega)))
    have hz9 := hb9.size
    (try simp only [World.size_alloc] at hz9)
    have hB9 : Below w.heap.size w w9 := chain hB8 hL9 hB8.size
    have k9_0_0 : w9.cell? ⟨w.heap.size, 0, none⟩ = some (.int .i64 a0) := (hL9.cell (p := ⟨w.heap.size, 0, none⟩) (by show w.heap.size < w8.heap.size; omega)).trans k8_0_0
    have k9_0_1 : w9.cell? ⟨w.heap.size, 1, none⟩ = some (.slice A n cp) := (hL9.cell (p := ⟨w.heap.size, 1, none⟩) (by show w.heap.size < w8.heap.size; omega)).trans k8_0_1
    have k9_1_0 : w9.cell? ⟨w3.heap.size, 0, none⟩ = some (.int .i64 R) := (hL9.cell (p := ⟨w3.heap.size, 0, none⟩) (by show w3.heap.size < w8.heap.size; omega)).trans k8_1_0
    have k9_1_1 : w9.cell? ⟨w3.heap.size, 1, none⟩ = some (.int .i64 C) := (hL9.cell (p := ⟨w3.heap.size, 1, none⟩) (by show w3.heap.size < w8.heap.size; omega)).trans k8_1_1
    have k9_1_2 : w9.cell? ⟨w3.heap.size, 2, none⟩ = some (.slice A3 k cp3) := (hL9.cell (p := ⟨w3.heap.size, 2, none⟩) (by show w3.heap.size < w8.heap.size; omega)).trans k8_1_2
    have k9_2_0 : w9.cell? ⟨w4.heap.size, 0, none⟩ = some (.int .i64 a0) := (hL9.cell (p := ⟨w4.heap.size, 0, none⟩) (by show w4.heap.size < w8.heap.size; omega)).trans k8_2_0
    have k9_2_1 : w9.cell? ⟨w4.heap.size, 1, none⟩ = some (.slice (some ⟨g4, 0, none⟩) n n) := (hL9.cell (p := ⟨w4.heap.size, 1, none⟩) (by show w4.heap.size < w8.heap.size; omega)).trans k8_2_1
    have k9_3_0 : w9.cell? ⟨w5.heap.size, 0, none⟩ = some (.int .i64 R) := (hL9.cell (p := ⟨w5.heap.size, 0, none⟩) (by show w5.heap.size < w8.heap.size; omega)).trans k8_3_0
    have k9_3_1 : w9.cell? ⟨w5.heap.size, 1, none⟩ = some (.int .i64 C) := (hL9.cell (p := ⟨w5.heap.size, 1, none⟩) (by show w5.heap.size < w8.heap.size; omega)).trans k8_3_1
    have k9_3_2 : w9.cell? ⟨w5.heap.size, 2, none⟩ = some (.slice A5 k cp5) := (hL9.cell (p := ⟨w5.heap.size, 2, none⟩) (by show w5.heap.size < w8.heap.size; omega)).trans k8_3_2
    have bl9_0 : w.heap.size < w9.heap.size := World.block_lt_of_cell? _ _ k9_0_0
    have bl9_1 : w3.heap.size < w9.heap.size := World.block_lt_of_cell? _ _ k9_1_0
    have bl9_2 : w4.heap.size < w9.heap.size := World.block_lt_of_cell? _ _ k9_2_0
    have bl9_3 : w5.heap.size < w9.heap.size := World.block_lt_of_cell? _ _ k9_3_0
    have HW9 := hid (HW8.out.mono hL9)
    have HG9 := hid (HG8.out.mono hL9)
    clear hb9 hL9
    clear k8_0_0 k8_0_1 k8_1_0 k8_1_1 k8_1_2 k8_2_0 k8_2_1 k8_3_0 k8_3_1 k8_3_2 HW8 HG8
    go_wp2_with (fail)
    refine (mkm (B := w4.heap.size + 1) (xs := zs) ?_ HZ.out hk (by decide) (by decide)).mono ?_
    · exact HG9.out
    rintro ee w10 ⟨rfl, hO10, hG10⟩
    have hz10 := hG10.size
    have hB10 : Below w.heap.size w w10 := Below.grown hB9 hG10 hB9.size (fun r hr => by have := hr_G r hr; omega)
    have k10_0_0 : w10.cell? ⟨w.heap.size, 0, none⟩ = some (.int .i64 a0) := hG10.cell k9_0_0 (fun e => by have := hr_G (w.heap.size) e.symm; omega)
    have k10_0_1 : w10.cell? ⟨w.heap.size, 1, none⟩ = some (.slice A n cp) := hG10.cell k9_0_1 (fun e => by have := hr_G (w.heap.size) e.symm; omega)
    have k10_1_0 : w10.cell? ⟨w3.heap.size, 0, none⟩ = some (.int .i64 R) := hG10.cell k9_1_0 (fun e => by have := hr_G (w3.heap.size) e.symm; omega)
    have k10_1_1 : w10.cell? ⟨w3.heap.size, 1, none⟩ = some (.int .i64 C) := hG10.cell k9_1_1 (fun e => by have := hr_G (w3.heap.size) e.symm; omega)
    have k10_1_2 : w10.cell? ⟨w3.heap.size, 2, none⟩ = some (.slice A3 k cp3) := hG10.cell k9_1_2 (fun e => by have := hr_G (w3.heap.size) e.symm; omega)
    have k10_2_0 : w10.cell? ⟨w4.heap.size, 0, none⟩ = some (.int .i64 a0) := hG10.cell k9_2_0 (fun e => by have := hr_G (w4.heap.size) e.symm; omega)
    have k10_2_1 : w10.cell? ⟨w4.heap.size, 1, none⟩ = some (.slice (some ⟨g4, 0, none⟩) n n) := hG10.cell k9_2_1 (fun e => by have := hr_G (w4.heap.size) e.symm; omega)
    have k10_3_0 : w10.cell? ⟨w5.heap.size, 0, none⟩ = some (.int .i64 R) := hG10.cell k9_3_0 (fun e => by have := hr_G (w5.heap.size) e.symm; omega)
    have k10_3_1 : w10.cell? ⟨w5.heap.size, 1, none⟩ = some (.int .i64 C) := hG10.cell k9_3_1 (fun e => by have := hr_G (w5.heap.size) e.symm; omega)
    have k10_3_2 : w10.cell? ⟨w5.heap.size, 2, none⟩ = some (.slice A5 k cp5) := hG10.cell k9_3_2 (fun e => by have := hr_G (w5.heap.size) e.symm; omega)
    have HW10 := hid (HW9.out.grown hG10 (fun r hr => by have := hr_G r hr; omega))
    have bl10_0 : w.heap.size < w10.heap.size := World.block_lt_of_cell? _ _ k10_0_0
    have bl10_1 : w3.heap.size < w10.heap.size := World.block_lt_of_cell? _ _ k10_1_0
    have bl10_2 : w4.heap.size < w10.heap.size := World.block_lt_of_cell? _ _ k10_2_0
    have bl10_3 : w5.heap.size < w10.heap.size := World.block_lt_of_cell? _ _ k10_3_0
    have HG10 := hid hO10
    clear hO10 hG10
    clear k9_0_0 k9_0_1 k9_1_0 k9_1_1 k9_1_2 k9_2_0 k9_2_1 k9_3_0 k9_3_1 k9_3_2 HW9 HG9
    go_wp2_with (fail)
    refine (hdm ?_ hk (by decide) (by decide)).mono ?_
    · exact HG10.out.rd.mono (by (repeat' (first | (with_reducible exact Below.refl _ _) | (with_reducible assumption) | (with_reducible refine Below.alloc ?_ ?_ _) | (with_reducible refine Below.drew ?_) | (with_reducible refine below_drewN ?_ _) | (with_reducible refine Below.setCell ?_ ?_ _) | (with_reducible refine chain ?_ (by assumption) ?_) | omega | (simp; done) | (simp; omega))))
    rintro ee w11 ⟨rfl, hb11⟩
    have hL11 : Below w10.heap.size w10 w11 := by (repeat' (first | (with_reducible exact Below.refl _ _) | (with_reducible assumption) | (with_reducible refine Below.alloc ?_ ?_ _) | (with_reducible refine Below.drew ?_) | (with_reducible refine below_drewN ?_ _) | (with_reducible refine Below.setCell ?_ ?_ _) | (with_reducible refine chain ?_ (by assumption) ?_) | omega | (simp; done) | (simp; omega)))
    have hz11 := hb11.size
    (try simp only [World.size_alloc] at hz11)
    have hB11 : Below w.heap.size w w11 := chain hB10 hL11 hB10.size
    have k11_0_0 : w11.cell? ⟨w.heap.size, 0, none⟩ = some (.int .i64 a0) := (hL11.cell (p := ⟨w.heap.size, 0, none⟩) (by show w.heap.size < w10.heap.size; omega)).trans k10_0_0
    have k11_0_1 : w11.cell? ⟨w.heap.size, 1, none⟩ = some (.slice A n cp) := (hL11.cell (p := ⟨w.heap.size, 1, none⟩) (by show w.heap.size < w10.heap.size; omega)).trans k10_0_1
    have k11_1_0 : w11.cell? ⟨w3.heap.size, 0, none⟩ = some (.int .i64 R) := (hL11.cell (p := ⟨w3.heap.size, 0, none⟩) (by show w3.heap.size < w10.heap.size; omega)).trans k10_1_0
    have k11_1_1 : w11.cell? ⟨w3.heap.size, 1, none⟩ = some (.int .i64 C) := (hL11.cell (p := ⟨w3.heap.size, 1, none⟩) (by show w3.heap.size < w10.heap.size; omega)).trans k10_1_1
    have k11_1_2 : w11.cell? ⟨w3.heap.size, 2, none⟩ = some (.slice A3 k cp3) := (hL11.cell (p := ⟨w3.heap.size, 2, none⟩) (by show w3.heap.size < w10.heap.size; omega)).trans k10_1_2
    have k11_2_0 : w11.cell? ⟨w4.heap.size, 0, none⟩ = some (.int .i64 a0) := (hL11.cell (p := ⟨w4.heap.size, 0, none⟩) (by show w4.heap.size < w10.heap.size; omega)).trans k10_2_0
    have k11_2_1 : w11.cell? ⟨w4.heap.size, 1, none⟩ = some (.slice (some ⟨g4, 0, none⟩) n n) := (hL11.cell (p := ⟨w4.heap.size, 1, none⟩) (by show w4.heap.size < w10.heap.size; omega)).trans k10_2_1
    have k11_3_0 : w11.cell? ⟨w5.heap.size, 0, none⟩ = some (.int .i64 R) := (hL11.cell (p := ⟨w5.heap.size, 0, none⟩) (by show w5.heap.size < w10.heap.size; omega)).trans k10_3_0
    have k11_3_1 : w11.cell? ⟨w5.heap.size, 1, none⟩ = some (.int .i64 C) := (hL11.cell (p := ⟨w5.heap.size, 1, none⟩) (by show w5.heap.size < w10.heap.size; omega)).trans k10_3_1
    have k11_3_2 : w11.cell? ⟨w5.heap.size, 2, none⟩ = some (.slice A5 k cp5) := (hL11.cell (p := ⟨w5.heap.size, 2, none⟩) (by show w5.heap.size < w10.heap.size; omega)).trans k10_3_2
    have bl11_0 : w.heap.size < w11.heap.size := World.block_lt_of_cell? _ _ k11_0_0
    have bl11_1 : w3.heap.size < w11.heap.size := World.block_lt_of_cell? _ _ k11_1_0
    have bl11_2 : w4.heap.size < w11.heap.size := World.block_lt_of_cell? _ _ k11_2_0
    have bl11_3 : w5.heap.size < w11.heap.size := World.block_lt_of_cell? _ _ k11_3_0
    have HW11 := hid (HW10.out.mono hL11)
    have HG11 := hid (HG10.out.mono hL11)
    clear hb11 hL11
    clear k10_0_0 k10_0_1 k10_1_0 k10_1_1 k10_1_2 k10_2_0 k10_2_1 k10_3_0 k10_3_1 k10_3_2 HW10 HG10
    go_wp2_with (fail)
    refine (C4.toCircuit (xs1 := xs) ?_ HN.out hb).mono ?_
    · exact HA.out.mono (by (repeat' (first | (with_reducible exact Below.refl _ _) | (with_reducible assumption) | (with_reducible refine Below.alloc ?_ ?_ _) | (with_reducible refine Below.drew ?_) | (with_reducible refine below_drewN ?_ _) | (with_reducible refine Below.setCell ?_ ?_ _) | (with_reducible refine chain ?_ (by assumption) ?_) | omega | (simp; done) | (simp; omega))))
    rintro ee w12 ⟨g12, rfl, hK12, hg12, hb12⟩
    have hL12 : Below w11.heap.size w11 w12 := by (repeat' (first | (with_reducible exact Below.refl _ _) | (with_reducible assumption) | (with_reducible refine Below.alloc ?_ ?_ _) | (with_reducible refine Below.drew ?_) | (with_reducible refine below_drewN ?_ _) | (with_reducible refine Below.setCell ?_ ?_ _) | (with_reducible refine chain ?_ (by assumption) ?_) | omega | (simp; done) | (simp; omega)))
    have hz12 := hb12.size
    (try simp only [World.size_alloc] at hz12)
    have hB12 : Below w.heap.size w w12 := chain hB11 hL12 hB11.size
    have k12_0_0 : w12.cell? ⟨w.heap.size, 0, none⟩ = some (.int .i64 a0) := (hL12.cell (p := ⟨w.heap.size, 0, none⟩) (by show w.heap.size < w11.heap.size; omega)).trans k11_0_0
    have k12_0_1 : w12.cell? ⟨w.heap.size, 1, none⟩ = some (.slice A n cp) := (hL12.cell (p := ⟨w.heap.size, 1, none⟩) (by show w.heap.size < w11.heap.size; omega)).trans k11_0_1
    have k12_1_0 : w12.cell? ⟨w3.heap.size, 0, none⟩ = some (.int .i64 R) := (hL12.cell (p := ⟨w3.heap.size, 0, none⟩) (by show w3.heap.size < w11.heap.size; omega)).trans k11_1_0
    have k12_1_1 : w12.cell? ⟨w3.heap.size, 1, none⟩ = some (.int .i64 C) := (hL12.cell (p := ⟨w3.heap.size, 1, none⟩) (by show w3.heap.size < w11.heap.size; omega)).trans k11_1_1
    have k12_1_2 : w12.cell? ⟨w3.heap.size, 2, none⟩ = some (.slice A3 k cp3) := (hL12.cell (p := ⟨w3.heap.size, 2, none⟩) (by show w3.heap.size < w11.heap.size; omega)).trans k11_1_2
    have k12_2_0 : w12.cell? ⟨w4.heap.size, 0, none⟩ = some (.int .i64 a0) := (hL12.cell (p := ⟨w4.heap.size, 0, none⟩) (by show w4.heap.size < w11.heap.size; omega)).trans k11_2_0
    have k12_2_1 : w12.cell? ⟨w4.heap.size, 1, none⟩ = some (.slice (some ⟨g4, 0, none⟩) n n) := (hL12.cell (p := ⟨w4.heap.size, 1, none⟩) (by show w4.heap.size < w11.heap.size; omega)).trans k11_2_1
    have k12_3_0 : w12.cell? ⟨w5.heap.size, 0, none⟩ = some (.int .i64 R) := (hL12.cell (p := ⟨w5.heap.size, 0, none⟩) (by show w5.heap.size < w11.heap.size; omega)).trans k11_3_0
    have k12_3_1 : w12.cell? ⟨w5.heap.size, 1, none⟩ = some (.int .i64 C) := (hL12.cell (p := ⟨w5.heap.size, 1, none⟩) (by show w5.heap.size < w11.heap.size; omega)).trans k11_3_1
    have k12_3_2 : w12.cell? ⟨w5.heap.size, 2, none⟩ = some (.slice A5 k cp5) := (hL12.cell (p := ⟨w5.heap.size, 2, none⟩) (by show w5.heap.size < w11.heap.size; omega)).trans k11_3_2
    have bl12_0 : w.heap.size < w12.heap.size := World.block_lt_of_cell? _ _ k12_0_0
    have bl12_1 : w3.heap.size < w12.heap.size := World.block_lt_of_cell? _ _ k12_1_0
    have bl12_2 : w4.heap.size < w12.heap.size := World.block_lt_of_cell? _ _ k12_2_0
    have bl12_3 : w5.heap.size < w12.heap.size := World.block_lt_of_cell? _ _ k12_3_0
    have HW12 := hid (HW11.out.mono hL12)
    have HG12 := hid (HG11.out.mono hL12)
    clear hb12 hL12
    clear k11_0_0 k11_0_1 k11_1_0 k11_1_1 k11_1_2 k11_2_0 k11_2_1 k11_3_0 k11_3_1 k11_3_2 HW11 HG11
    go_wp2_with (fail)
    refine (HI.out _ _ ?_).mono ?_
    · exact hK12.rd
    rintro ee w13 ⟨A13, cp13, rfl, hO13, hb13⟩
    have hL13 : Below w12.heap.size w12 w13 := by (repeat' (first | (with_reducible exact Below.refl _ _) | (with_reducible assumption) | (with_reducible refine Below.alloc ?_ ?_ _) | (with_reducible refine Below.drew ?_) | (with_reducible refine below_drewN ?_ _) | (with_reducible refine Below.setCell ?_ ?_ _) | (with_reducible refine chain ?_ (by assumption) ?_) | omega | (simp; done) | (simp; omega)))
    have hz13 := hb13.size
    (try simp only [World.size_alloc] at hz13)
    have hB13 : Below w.heap.size w w13 := chain hB12 hL13 hB12.size
    have k13_0_0 : w13.cell? ⟨w.heap.size, 0, none⟩ = some (.int .i64 a0) := (hL13.cell (p := ⟨w.heap.size, 0, none⟩) (by show w.heap.size < w12.heap.size; omega)).trans k12_0_0
    have k13_0_1 : w13.cell? ⟨w.heap.size, 1, none⟩ = some (.slice A n cp) := (hL13.cell (p := ⟨w.heap.size, 1, none⟩) (by show w.heap.size < w12.heap.size; omega)).trans k12_0_1
    have k13_1_0 : w13.cell? ⟨w3.heap.size, 0, none⟩ = some (.int .i64 R) := (hL13.cell (p := ⟨w3.heap.size, 0, none⟩) (by show w3.heap.size < w12.heap.size; omega)).trans k12_1_0
    have k13_1_1 : w13.cell? ⟨w3.heap.size, 1, none⟩ = some (.int .i64 C) := (hL13.cell (p := ⟨w3.heap.size, 1, none⟩) (by show w3.heap.size < w12.heap.size; omega)).trans k12_1_1
    have k13_1_2 : w13.cell? ⟨w3.heap.size, 2, none⟩ = some (.slice A3 k cp3) := (hL13.cell (p := ⟨w3.heap.size, 2, none⟩) (by show w3.heap.size < w12.heap.size; omega)).trans k12_1_2
    have k13_2_0 : w13.cell? ⟨w4.heap.size, 0, none⟩ = some (.int .i64 a0) := (hL13.cell (p := ⟨w4.heap.size, 0, none⟩) (by show w4.heap.size < w12.heap.size; omega)).trans k12_2_0
    have k13_2_1 : w13.cell? ⟨w4.heap.size, 1, none⟩ = some (.slice (some ⟨g4, 0, none⟩) n n) := (hL13.cell (p := ⟨w4.heap.size, 1, none⟩) (by show w4.heap.size < w12.heap.size; omega)).trans k12_2_1
    have k13_3_0 : w13.cell? ⟨w5.heap.size, 0, none⟩ = some (.int .i64 R) := (hL13.cell (p := ⟨w5.heap.size, 0, none⟩) (by show w5.heap.size < w12.heap.size; omega)).trans k12_3_0
    have k13_3_1 : w13.cell? ⟨w5.heap.size, 1, none⟩ = some (.int .i64 C) := (hL13.cell (p := ⟨w5.heap.size, 1, none⟩) (by show w5.heap.size < w12.heap.size; omega)).trans k12_3_1
    have k13_3_2 : w13.cell? ⟨w5.heap.size, 2, none⟩ = some (.slice A5 k cp5) := (hL13.cell (p := ⟨w5.heap.size, 2, none⟩) (by show w5.heap.size < w12.heap.size; omega)).trans k12_3_2
    have bl13_0 : w.heap.size < w13.heap.size := World.block_lt_of_cell? _ _ k13_0_0
    have bl13_1 : w3.heap.size < w13.heap.size := World.block_lt_of_cell? _ _ k13_1_0
    have bl13_2 : w4.heap.size < w13.heap.size := World.block_lt_of_cell? _ _ k13_2_0
    have bl13_3 : w5.heap.size < w13.heap.size := World.block_lt_of_cell? _ _ k13_3_0
    have HW13 := hid (HW12.out.mono hL13)
    have HG13 := hid (HG12.out.mono hL13)
    clear hb13 hL13
    clear k12_0_0 k12_0_1 k12_1_0 k12_1_1 k12_1_2 k12_2_0 k12_2_1 k12_3_0 k12_3_1 k12_3_2 HW12 HG12
    clear hK12
    have HH13 := hid hO13.rd
    clear hO13
    go_wp2_with (fail)
    refine (eqm (xs := zs) ?_ ?_ HZ.out hk).mono ?_
    · exact HH13.out.mono (by (repeat' (first | (with_reducible exact Below.refl _ _) | (with_reducible assumption) | (with_reducible refine Below.alloc ?_ ?_ _) | (with_reducible refine Below.drew ?_) | (with_reducible refine below_drewN ?_ _) | (with_reducible refine Below.setCell ?_ ?_ _) | (with_reducible refine chain ?_ (by assumption) ?_) | omega | (simp; done) | (simp; omega))))
    · exact HW13.out.rd.mono (by (repeat' (first | (with_reducible exact Below.refl _ _) | (with_reducible assumption) | (with_reducible refine Below.alloc ?_ ?_ _) | (with_reducible refine Below.drew ?_) | (with_reducible refine below_drewN ?_ _) | (with_reducible refine Below.setCell ?_ ?_ _) | (with_reducible refine chain ?_ (by assumption) ?_) | omega | (simp; done) | (simp; omega))))
    rintro ee w14 ⟨rfl, hb14⟩
    have hL14 : Below w13.heap.size w13 w14 := by (repeat' (first | (with_reducible exact Below.refl _ _) | (with_reducible assumption) | (with_reducible refine Below.alloc ?_ ?_ _) | (with_reducible refine Below.drew ?_) | (with_reducible refine below_drewN ?_ _) | (with_reducible refine Below.setCell ?_ ?_ _) | (with_reducible refine chain ?_ (by assumption) ?_) | omega | (simp; done) | (simp; omega)))
    have hz14 := hb14.size
    (try simp only [World.size_alloc] at hz14)
    have hB14 : Below w.heap.size w w14 := chain hB13 hL14 hB13.size
    have k14_0_0 : w14.cell? ⟨w.heap.size, 0, none⟩ = some (.int .i64 a0) := (hL14.cell (p := ⟨w.heap.size, 0, none⟩) (by show w.heap.size < w13.heap.size; omega)).trans k13_0_0
    have k14_0_1 : w14.cell? ⟨w.heap.size, 1, none⟩ = some (.slice A n cp) := (hL14.cell (p := ⟨w.heap.size, 1, none⟩) (by show w.heap.size < w13.heap.size; omega)).trans k13_0_1
    have k14_1_0 : w14.cell? ⟨w3.heap.size, 0, none⟩ = some (.int .i64 R) := (hL14.cell (p := ⟨w3.heap.size, 0, none⟩) (by show w3.heap.size < w13.heap.size; omega)).trans k13_1_0
    have k14_1_1 : w14.cell? ⟨w3.heap.size, 1, none⟩ = some (.int .i64 C) := (hL14.cell (p := ⟨w3.heap.size, 1, none⟩) (by show w3.heap.size < w13.heap.size; omega)).trans k13_1_1
    have k14_1_2 : w14.cell? ⟨w3.heap.size, 2, none⟩ = some (.slice A3 k cp3) := (hL14.cell (p := ⟨w3.heap.size, 2, none⟩) (by show w3.heap.size < w13.heap.size; omega)).trans k13_1_2
    have k14_2_0 : w14.cell? ⟨w4.heap.size, 0, none⟩ = some (.int .i64 a0) := (hL14.cell (p := ⟨w4.heap.size, 0, none⟩) (by show w4.heap.size < w13.heap.size; omega)).trans k13_2_0
    have k14_2_1 : w14.cell? ⟨w4.heap.size, 1, none⟩ = some (.slice (some ⟨g4, 0, none⟩) n n) := (hL14.cell (p := ⟨w4.heap.size, 1, none⟩) (by show w4.heap.size < w13.heap.size; omega)).trans k13_2_1
    have k14_3_0 : w14.cell? ⟨w5.heap.size, 0, none⟩ = some (.int .i64 R) := (hL14.cell (p := ⟨w5.heap.size, 0, none⟩) (by show w5.heap.size < w13.heap.size; omega)).trans k13_3_0
    have k14_3_1 : w14.cell? ⟨w5.heap.size, 1, none⟩ = some (.int .i64 C) := (hL14.cell (p := ⟨w5.heap.size, 1, none⟩) (by show w5.heap.size < w13.heap.size; omega)).trans k13_3_1
    have k14_3_2 : w14.cell? ⟨w5.heap.size, 2, none⟩ = some (.slice A5 k cp5) := (hL14.cell (p := ⟨w5.heap.size, 2, none⟩) (by show w5.heap.size < w13.heap.size; omega)).trans k13_3_2
    have k14_4_0 : w14.cell? ⟨w13.heap.size, 0, none⟩ = some (.int .i64 R) := (hb14.cell (p := ⟨w13.heap.size, 0, none⟩) (by show w13.heap.size < _; (try simp only [World.size_alloc]); omega)).trans (by first | rfl | (simp; done) | (simp [*]; done))
    have k14_4_1 : w14.cell? ⟨w13.heap.size, 1, none⟩ = some (.int .i64 C) := (hb14.cell (p := ⟨w13.heap.size, 1, none⟩) (by show w13.heap.size < _; (try simp only [World.size_alloc]); omega)).trans (by first | rfl | (simp; done) | (simp [*]; done))
    have k14_4_2 : w14.cell? ⟨w13.heap.size, 2, none⟩ = some (.slice A13 k cp13) := (hb14.cell (p := ⟨w13.heap.size, 2, none⟩) (by show w13.heap.size < _; (try simp only [World.size_alloc]); omega)).trans (by first | rfl | (simp; done) | (simp [*]; done))
    have bl14_0 : w.heap.size < w14.heap.size := World.block_lt_of_cell? _ _ k14_0_0
    have bl14_1 : w3.heap.size < w14.heap.size := World.block_lt_of_cell? _ _ k14_1_0
    have bl14_2 : w4.heap.size < w14.heap.size := World.block_lt_of_cell? _ _ k14_2_0
    have bl14_3 : w5.heap.size < w14.heap.size := World.block_lt_of_cell? _ _ k14_3_0
    have bl14_4 : w13.heap.size < w14.heap.size := World.block_lt_of_cell? _ _ k14_4_0
    have HW14 := hid (HW13.out.mono hL14)
    have HG14 := hid (HG13.out.mono hL14)
    clear hb14 hL14
    clear k13_0_0 k13_0_1 k13_1_0 k13_1_1 k13_1_2 k13_2_0 k13_2_1 k13_3_0 k13_3_1 k13_3_2 HW13 HG13
    go_wp2_with (fail)
    refine (hdm ?_ hk (by decide) (by decide)).mono ?_
    · exact HG14.out.rd.mono (by (repeat' (first | (with_reducible exact Below.refl _ _) | (with_reducible assumption) | (with_reducible refine Below.alloc ?_ ?_ _) | (with_reducible refine Below.drew ?_) | (with_reducible refine below_drewN ?_ _) | (with_reducible refine Below.setCell ?_ ?_ _) | (with_reducible refine chain ?_ (by assumption) ?_) | omega | (simp; done) | (simp; omega))))
    rintro ee w15 ⟨rfl, hb15⟩
    have hL15 : Below w14.heap.size w14 w15 := by (repeat' (first | (with_reducible exact Below.refl _ _) | (with_reducible assumption) | (with_reducible refine Below.alloc ?_ ?_ _) | (with_reducible refine Below.drew ?_) | (with_reducible refine below_drewN ?_ _) | (with_reducible refine Below.setCell ?_ ?_ _) | (with_reducible refine chain ?_ (by assumption) ?_) | omega | (simp; done) | (simp; omega)))
    have hz15 := hb15.size
    (try simp only [World.size_alloc] at hz15)
    have hB15 : Below w.heap.size w w15 := chain hB14 hL15 hB14.size
    have k15_0_0 : w15.cell? ⟨w.heap.size, 0, none⟩ = some (.int .i64 a0) := (hL15.cell (p := ⟨w.heap.size, 0, none⟩) (by show w.heap.size < w14.heap.size; omega)).trans k14_0_0
    have k15_0_1 : w15.cell? ⟨w.heap.size, 1, none⟩ = some (.slice A n cp) := (hL15.cell (p := ⟨w.heap.size, 1, none⟩) (by show w.heap.size < w14.heap.size; omega)).trans k14_0_1
    have k15_1_0 : w15.cell? ⟨w3.heap.size, 0, none⟩ = some (.int .i64 R) := (hL15.cell (p := ⟨w3.heap.size, 0, none⟩) (by show w3.heap.size < w14.heap.size; omega)).trans k14_1_0
    have k15_1_1 : w15.cell? ⟨w3.heap.size, 1, none⟩ = some (.int .i64 C) := (hL15.cell (p := ⟨w3.heap.size, 1, none⟩) (by show w3.heap.size < w14.heap.size; omega)).trans k14_1_1
    have k15_1_2 : w15.cell? ⟨w3.heap.size, 2, none⟩ = some (.slice A3 k cp3) := (hL15.cell (p := ⟨w3.heap.size, 2, none⟩) (by show w3.heap.size < w14.heap.size; omega)).trans k14_1_2
    have k15_2_0 : w15.cell? ⟨w4.heap.size, 0, none⟩ = some (.int .i64 a0) := (hL15.cell (p := ⟨w4.heap.size, 0, none⟩) (by show w4.heap.size < w14.heap.size; omega)).trans k14_2_0
    have k15_2_1 : w15.cell? ⟨w4.heap.size, 1, none⟩ = some (.slice (some ⟨g4, 0, none⟩) n n) := (hL15.cell (p := ⟨w4.heap.size, 1, none⟩) (by show w4.heap.size < w14.heap.size; omega)).trans k14_2_1
    have k15_3_0 : w15.cell? ⟨w5.heap.size, 0, none⟩ = some (.int .i64 R) := (hL15.cell (p := ⟨w5.heap.size, 0, none⟩) (by show w5.heap.size < w14.heap.size; omega)).trans k14_3_0
    have k15_3_1 : w15.cell? ⟨w5.heap.size, 1, none⟩ = some (.int .i64 C) := (hL15.cell (p := ⟨w5.heap.size, 1, none⟩) (by show w5.heap.size < w14.heap.size; omega)).trans k14_3_1
    have k15_3_2 : w15.cell? ⟨w5.heap.size, 2, none⟩ = some (.slice A5 k cp5) := (hL15.cell (p := ⟨w5.heap.size, 2, none⟩) (by show w5.heap.size < w14.heap.size; omega)).trans k14_3_2
    have k15_4_0 : w15.cell? ⟨w13.heap.size, 0, none⟩ = some (.int .i64 R) := (hL15.cell (p := ⟨w13.heap.size, 0, none⟩) (by show w13.heap.size < w14.heap.size; omega)).trans k14_4_0
    have k15_4_1 : w15.cell? ⟨w13.heap.size, 1, none⟩ = some (.int .i64 C) := (hL15.cell (p := ⟨w13.heap.size, 1, none⟩) (by show w13.heap.size < w14.heap.size; omega)).trans k14_4_1
    have k15_4_2 : w15.cell? ⟨w13.heap.size, 2, none⟩ = some (.slice A13 k cp13) := (hL15.cell (p := ⟨w13.heap.size, 2, none⟩) (by show w13.heap.size < w14.heap.size; omega)).trans k14_4_2
    have bl15_0 : w.heap.size < w15.heap.size := World.block_lt_of_cell? _ _ k15_0_0
    have bl15_1 : w3.heap.size < w15.heap.size := World.block_lt_of_cell? _ _ k15_1_0
    have bl15_2 : w4.heap.size < w15.heap.size := World.block_lt_of_cell? _ _ k15_2_0
    have bl15_3 : w5.heap.size < w15.heap.size := World.block_lt_of_cell? _ _ k15_3_0
    have bl15_4 : w13.heap.size < w15.heap.size := World.block_lt_of_cell? _ _ k15_4_0
    have HW15 := hid (HW14.out.mono hL15)
    have HG15 := hid (HG14.out.mono hL15)
    clear hb15 hL15
    clear k14_0_0 k14_0_1 k14_1_0 k14_1_1 k14_1_2 k14_2_0 k14_2_1 k14_3_0 k14_3_1 k14_3_2 k14_4_0 k14_4_1 k14_4_2 HW14 HG14
    go_wp2_with (fail)
    go_ret
    exact ⟨rfl, hB15⟩

theorem fnExactStateAfter_walk {a0 i : Int} {A : Option Addr} {n cp : Nat} {xs : List C4.GateV} {w : World} (hA : C4.Rd C4.gateE w A xs) (hn : xs.length = n) (hm : n ≤ maxLen) :
    Calls Try.prog 11 #[C4.circuitV a0 A n cp, .int .i64 i] w fun ee w' => ee = .returned (.bool true) ∧ Below w.heap.size w w' := by
  by_cases hb : 1048576 < n
  · exact bigStateAfter hb hm
  cases hok : C4.okC a0 n xs
  · exact lwStateAfter (R := 0) (C := 0) (k := 0) (zs := []) (ok := false)
      (fun g w hR _ => (sa_s_f hR hn hm hok).mono fun ee w' h => by obtain ⟨A, cp, he, ⟨hr, -⟩, hb⟩ := zero_law h; exact ⟨A, cp, he, hr, hb⟩)
      (fun g w hR => (sa_i_f hR hn hm hok).mono fun ee w' h => zero_lawI h) rfl (by omega) hA hn (by omega)
  · obtain ⟨m, rfl, h1, h5, -, -⟩ := okC_nat hok
    by_cases hl : i < 0
    · exact lwStateAfter (R := 0) (C := 0) (k := 0) (zs := []) (ok := false)
        (fun g w hR _ => (sa_s_l hR hn hok hl).mono fun ee w' h => by obtain ⟨A, cp, he, ⟨hr, -⟩, hb⟩ := zero_law h; exact ⟨A, cp, he, hr, hb⟩)
        (fun g w hR => (sa_i_l hR hn hok hl).mono fun ee w' h => zero_lawI h) rfl (by omega) hA hn (by omega)
    have hl0 : 0 ≤ i := Int.not_lt.1 hl
    by_cases hh : ((2 ^ m : Nat) : Int) ≤ i
    · exact lwStateAfter (R := 0) (C := 0) (k := 0) (zs := []) (ok := false)
        (fun g w hR _ => (sa_s_h hR hn hok hl0 hh).mono fun ee w' h => by obtain ⟨A, cp, he, ⟨hr, -⟩, hb⟩ := zero_law h; exact ⟨A, cp, he, hr, hb⟩)
        (fun g w hR => (sa_i_h hR hn hok hl0 hh).mono fun ee w' h => zero_lawI h) rfl (by omega) hA hn (by omega)
    obtain ⟨s, rfl⟩ : ∃ s : Nat, i = (s : Int) := ⟨i.toNat, (Int.toNat_of_nonneg hl0).symm⟩
    have hs : s < 2 ^ m := Int.ofNat_lt.1 (Int.not_le.1 hh)
    have h2 : 2 ^ m ≤ 32 := pow_le h5
    cases hq : stA m s xs with
    | none =>
      exact lwStateAfter (R := 0) (C := 0) (k := 0) (zs := []) (ok := false)
        (fun g w hR hg => (sa_s_t hR hn hok (fun a ha => by obtain rfl := Option.some.inj ha; exact hg) hs).mono fun ee w' h => by obtain ⟨A, cp, he, ⟨hr, -⟩, hb⟩ := zero_law ⟨h.1 hq, h.2.2⟩; exact ⟨A, cp, he, hr, hb⟩)
        (fun g w hR => (sa_i_t hR hn hok hs).mono fun ee w' h => zero_lawI ⟨h.1 hq, h.2.2⟩) rfl (by omega) hA hn (by omega)
    | some zs =>
      exact lwStateAfter (R := ((2 ^ m : Nat) : Int)) (C := 1) (k := 2 ^ m) (zs := zs) (ok := true)
        (fun g w hR hg => (sa_s_t hR hn hok (fun a ha => by obtain rfl := Option.some.inj ha; exact hg) hs).mono fun ee w' h => by obtain ⟨Bo, cq, he, hr⟩ := h.2.1 zs hq; exact ⟨Bo, cq, he, hr, h.2.2⟩)
        (fun g w hR => (sa_i_t hR hn hok hs).mono fun ee w' h => by obtain ⟨b, he, hk, hg⟩ := h.2.1 zs hq; exact ⟨_, _, he, hk.ow hg, h.2.2⟩)
        (stA_len hq) (Nat.le_trans h2 (by decide)) hA hn (by omega)

end Go.Proofs.Ytncgccpkbneagaa
