/- Blt, StEq, OmegaId -/
import Derived.Test.YtofclfgaekjonaaZq9
import Derived.Test.YtofclfgaekjonaaZq4
import Derived.Test.YtofclfgaekjonaaZq13
import Derived.Test.YtofclfgaekjonaaZq15
import Derived.Test.YtofclfgaekjonaaZq2
import Derived.ChangeKeysEq
import Derived.Test.YtofclfgaekjonaaZq0
import Derived.Deep.RegionWith
namespace Go.Proofs.Ytofclfgaekjonaa
open Go.RowKit RM
set_option linter.unusedVariables false
set_option linter.unusedSimpArgs false
attribute [local irreducible] World.setCell

/-- the transpose -/
def tpF (xs : List D5) (q : Nat) : D5 := xs.getD (q % 3 * 3 + q / 3) z5
theorem tr_lt {q : Nat} (h : q < 9) : q % 3 * 3 + q / 3 < 9 := by omega
theorem tr_ok {xs : List D5} (hl : xs.length = 9) (h : allB xs = true) : allB (tab 9 (tpF xs)) = true := allB_tab (fun q hq => by
  unfold tpF
  exact all_get h (get_of (by rw [hl]; exact tr_lt hq)))
set_option maxRecDepth 100000 in
set_option maxHeartbeats 4000000 in
theorem ltr {A : Option Addr} {cp : Nat} {xs : List D5} {w : World} (hA : Rd w A xs) (hn : xs.length = 9) :
    Calls Try.prog 85 #[bv A 9 cp] w fun ee w' => ∃ (B : Option Addr) (cq : Nat), ee = .returned (bv B 9 cq) ∧ Rd w' B (tab 9 (tpF xs)) ∧ (∀ a, B = some a → w.heap.size ≤ a.block) ∧ Below w.heap.size w w' := by
  obtain ⟨i0, hi0, hz0, hz1, hz2⟩ := info_parts infoD
  have HA := hid hA
  have HN := hid hn
  clear hA hn
  obtain ⟨F, hF⟩ : ∃ F, F = tpF xs := ⟨_, rfl⟩
  have HF := hid hF
  rw [← hF]
  clear hF
  go_enter Try.func85, Try.ntmps85
  go_wp2_with (fail)
  go_loopg [4] 9 (fun q s1 wr => ∃ (j : Nat) (v : Value), j + q = 9 ∧ s1 = .int .i64 (j : Int) ∧ Hid (Bx wr (w.heap.size) 51 #[.slice A 9 cp]) ∧ Hid (Bx wr (w.heap.size + 1) 51 #[.slice none 0 0]) ∧ Hid (Bx wr (w.heap.size + 1 + 1) 51 #[v]) ∧ Hid (Own5 wr (w.heap.size + 1 + 1 + 1) 99 v (tab j F)) ∧ w.heap.size + 1 + 1 + 1 ≤ wr.heap.size ∧ Below w.heap.size w wr)
  case atStart => exact ⟨0, .slice none 0 0, by omega, rfl, (by show Bx _ _ _ _; exact ((Bx.new rfl).alloc _).alloc _), (by show Bx _ _ _ _; exact (Bx.new (by simp)).alloc _), (by show Bx _ _ _ _; exact Bx.new (by simp)), Own5.nil _ _ _, by simp, by (repeat' (first | (with_reducible exact Below.refl _ _) | (with_reducible assumption) | (with_reducible refine Below.alloc ?_ ?_ _) | (with_reducible refine Below.drew ?_) | (with_reducible refine below_drewN ?_ _) | (with_reducible refine Below.setCell ?_ ?_ _) | (with_reducible refine chain ?_ (by assumption) ?_) | omega | (simp; done) | (simp; omega)))⟩
  case round =>
    obtain ⟨j, v, hj, rfl, Xm, Xz, Xo, HO, hsz, hB⟩ := hrel
    have cm0 := Xm.out.c 0 rfl
    have lm := Xm.out.lt
    have cz0 := Xz.out.c 0 rfl
    have lz := Xz.out.lt
    have fz := Xz.out.f
    have co0 := Xo.out.c 0 rfl
    have lo := Xo.out.lt
    have fo := Xo.out.f
    cases gk with
    | zero =>
      have j9 : ¬ ((j : Int) < 9) := by omega
      have HO1 := HO.out
      rw [show j = 9 by omega] at HO1
      obtain ⟨B, cq, rfl, hRd, hBa⟩ := HO1.form
      rw [tab_len] at HO1 co0
      have HBa := hid hBa
      clear hBa
      have HRd := hid hRd
      clear hRd
      go_wp2_with (fail)
      refine bodyPost_ret (v := bv B 9 cq) (by first | (simp [results, Try.results85, go_sem, *]; done) | (simp (disch := (first | omega | (simp; done) | (simp; omega))) [results, Try.results85, go_sem, *]; done) | (simp only [results, Try.results85]; go_simp; done)) rfl ?_
      refine ⟨B, ⟨cq, rfl⟩, ?_, fun a ha => by have := (HBa.out a ha).1; omega, ?_⟩
      · exact (HRd.out.far (fun a ha => by have := (HBa.out a ha).1; show _ ≠ w.heap.size + 1; omega) _)
      · (repeat' (first | (with_reducible exact Below.refl _ _) | (with_reducible assumption) | (with_reducible refine Below.alloc ?_ ?_ _) | (with_reducible refine Below.setCell ?_ ?_ _) | omega | (simp; done)))
    | succ m =>
      have hlt : j < 9 := by omega
      have j1 : (j : Int) < 9 := by omega
      have hvl := World.ownsRow.lt HO.out
      have nem : some (w.heap.size) ≠ v.ownBlock := fun e => by have := (hvl _ e.symm).1; omega
      have nez : some (w.heap.size + 1) ≠ v.ownBlock := fun e => by have := (hvl _ e.symm).1; omega
      have neo : some (w.heap.size + 1 + 1) ≠ v.ownBlock := fun e => by have := (hvl _ e.symm).1; omega
      have hjd : j / 3 < 3 := by omega
      have hjp : j % 3 < 3 := by omega
      obtain ⟨d, hd⟩ : ∃ d, d = j / 3 := ⟨_, rfl⟩
      obtain ⟨p, hp⟩ : ∃ p, p = j % 3 := ⟨_, rfl⟩
      have dw : IntKind.i64.wrap (d : Int) = (d : Int) := IntWalk.i64_in _ (by omega)
      have d2 : (j : Int).tdiv 3 = (d : Int) := by rw [hd]; rfl
      have d3 : IntKind.i64.wrap ((j : Int).tdiv 3) = (d : Int) := by rw [d2]; exact dw
      have pw : IntKind.i64.wrap (p : Int) = (p : Int) := IntWalk.i64_in _ (by omega)
      have p2 : (j : Int).tmod 3 = (p : Int) := by rw [hp]; rfl
      have p3 : IntKind.i64.wrap ((j : Int).tmod 3) = (p : Int) := by rw [p2]; exact pw
      obtain ⟨t, ht⟩ : ∃ t, t = p * 3 := ⟨_, rfl⟩
      have e1 : (p : Int) * 3 = (t : Int) := by rw [ht]; simp
      have e2 : IntKind.i64.wrap (t : Int) = (t : Int) := IntWalk.i64_in _ (by omega)
      obtain ⟨s, hs⟩ : ∃ s, s = t + d := ⟨_, rfl⟩
      have e3 : IntKind.i64.wrap ((t : Int) + (d : Int)) = (s : Int) := by rw [hs, Int.natCast_add]; exact IntWalk.i64_in _ (by omega)
      have hq : s < 9 := by omega
      have e4 : (s : Int) < 9 := by omega
      have hse : j % 3 * 3 + j / 3 = s := by omega
      have hx := get_of (xs := xs) (q := s) (by rw [HN.out]; exact hq)
      obtain ⟨x, hxe⟩ : ∃ x, x = xs.getD s z5 := ⟨_, rfl⟩
      rw [← hxe] at hx
      have HX : Hid (F j = x) := by show F j = x; rw [HF.out, hxe]; unfold tpF; rw [hse]
      clear hxe
      obtain ⟨g, o, rfl, hC⟩ := HA.out _ x hx
      obtain ⟨q0, q1, q2, q3, q4⟩ := hC.at_ (hB.block g hC.lt)
      have hgw := hC.lt
      clear hC hx hse hs ht hd hp
      go_wp2_with (fail)
      have neg : some g ≠ v.ownBlock := fun e => by have := (hvl _ e.symm).1; omega
      have ycm0 : wr.drew.cell? ⟨w.heap.size, 0, none⟩ = some (.slice (some ⟨g, o, none⟩) 9 cp) := cm0
      have yco0 : wr.drew.cell? ⟨w.heap.size + 1 + 1, 0, none⟩ = some (v) := co0
      have yq0 : wr.drew.cell? ⟨g, o + s * 5, none⟩ = some (.int .i64 x.a) := q0
      have yq1 : wr.drew.cell? ⟨g, o + s * 5 + 1, none⟩ = some (.int .i64 x.b) := q1
      have yq2 : wr.drew.cell? ⟨g, o + s * 5 + 2, none⟩ = some (.int .i64 x.c) := q2
      have yq3 : wr.drew.cell? ⟨g, o + s * 5 + 3, none⟩ = some (.int .i64 x.d) := q3
      have yq4 : wr.drew.cell? ⟨g, o + s * 5 + 4, none⟩ = some (.int .i64 x.e) := q4
      refine wp_region_x (fun w' => w'.cell? ⟨w.heap.size, 0, none⟩ = some (.slice (some ⟨g, o, none⟩) 9 cp) ∧ w'.cell? ⟨w.heap.size + 1 + 1, 0, none⟩ = some (v) ∧ w'.cell? ⟨g, o + s * 5, none⟩ = some (.int .i64 x.a) ∧ w'.cell? ⟨g, o + s * 5 + 1, none⟩ = some (.int .i64 x.b) ∧ w'.cell? ⟨g, o + s * 5 + 2, none⟩ = some (.int .i64 x.c) ∧ w'.cell? ⟨g, o + s * 5 + 3, none⟩ = some (.int .i64 x.d) ∧ w'.cell? ⟨g, o + s * 5 + 4, none⟩ = some (.int .i64 x.e)) 15 (by kernel_rfl) ⟨ycm0, yco0, yq0, yq1, yq2, yq3, yq4⟩ (fun hS0 => ?_)
      refine wpAnyX_take (i := 0) (oi := _) (v := ?_) rfl (by kernel_rfl) (by kernel_rfl) (by kernel_rfl) (by kernel_rfl) (fun _ _ _ h => h) (Or.inl ⟨by rfl, ?_⟩) hS0 ?_
      rotate_left 1
      · (intro w hSw; (try dsimp only at hSw); go_simp; (try with_reducible rfl))
      try simp only [Act.put, List.setIfInBounds_toArray, List.set_cons_zero, List.set_cons_succ]
      refine wpAnyX_take (i := 1) (oi := _) (v := ?_) rfl (by kernel_rfl) (by kernel_rfl) (by kernel_rfl) (by kernel_rfl) (fun _ _ _ h => h) (Or.inl ⟨by rfl, ?_⟩) hS0 ?_
      rotate_left 1
      · (intro w hSw; (try dsimp only at hSw); go_simp; (try with_reducible rfl))
      try simp only [Act.put, List.setIfInBounds_toArray, List.set_cons_zero, List.set_cons_succ]
      refine wpAnyX_take (i := 2) (oi := _) (v := ?_) rfl (by kernel_rfl) (by kernel_rfl) (by kernel_rfl) (by kernel_rfl) (fun _ _ _ h => h) (Or.inl ⟨by rfl, ?_⟩) hS0 ?_
      rotate_left 1
      · (intro w hSw; (try dsimp only at hSw); go_simp; (try with_reducible rfl))
      try simp only [Act.put, List.setIfInBounds_toArray, List.set_cons_zero, List.set_cons_succ]
      refine wpAnyX_take (i := 3) (oi := _) (v := ?_) rfl (by kernel_rfl) (by kernel_rfl) (by kernel_rfl) (by kernel_rfl) (fun _ _ _ h => h) (Or.inl ⟨by rfl, ?_⟩) hS0 ?_
      rotate_left 1
      · (intro w hSw; (try dsimp only at hSw); go_simp; (try with_reducible rfl))
      try simp only [Act.put, List.setIfInBounds_toArray, List.set_cons_zero, List.set_cons_succ]
      refine wpAnyX_take (i := 4) (oi := _) (v := ?_) rfl (by kernel_rfl) (by kernel_rfl) (by kernel_rfl) (by kernel_rfl) (fun _ _ _ h => h) (Or.inl ⟨by rfl, ?_⟩) hS0 ?_
      rotate_left 1
      · (intro w hSw; (try dsimp only at hSw); go_simp; (try with_reducible rfl))
      try simp only [Act.put, List.setIfInBounds_toArray, List.set_cons_zero, List.set_cons_succ]
      refine wpAnyX_take (i := 5) (oi := _) (v := ?_) rfl (by kernel_rfl) (by kernel_rfl) (by kernel_rfl) (by kernel_rfl) (fun _ _ _ h => h) (Or.inl ⟨by rfl, ?_⟩) hS0 ?_
      rotate_left 1
      · (intro w hSw; (try dsimp only at hSw); go_simp; (try with_reducible rfl))
      try simp only [Act.put, List.setIfInBounds_toArray, List.set_cons_zero, List.set_cons_succ]
      refine wpAnyX_take (i := 6) (oi := _) (v := ?_) rfl (by kernel_rfl) (by kernel_rfl) (by kernel_rfl) (by kernel_rfl) (fun _ _ _ h => h) (Or.inl ⟨by rfl, ?_⟩) hS0 ?_
      rotate_left 1
      · (intro w hSw; (try dsimp only at hSw); go_simp; (try with_reducible rfl))
      try simp only [Act.put, List.setIfInBounds_toArray, List.set_cons_zero, List.set_cons_succ]
      refine wpAnyX_take (i := 7) (oi := _) (v := ?_) rfl (by kernel_rfl) (by kernel_rfl) (by kernel_rfl) (by kernel_rfl) (fun _ _ _ h => h) (Or.inl ⟨by rfl, ?_⟩) hS0 ?_
      rotate_left 1
      · (intro w hSw; (try dsimp only at hSw); go_simp; (try with_reducible rfl))
      try simp only [Act.put, List.setIfInBounds_toArray, List.set_cons_zero, List.set_cons_succ]
      refine wpAnyX_take (i := 8) (oi := _) (v := ?_) rfl (by kernel_rfl) (by kernel_rfl) (by kernel_rfl) (by kernel_rfl) (fun _ _ _ h => h) (Or.inl ⟨by rfl, ?_⟩) hS0 ?_
      rotate_left 1
      · (intro w hSw; (try dsimp only at hSw); go_simp; (try with_reducible rfl))
      try simp only [Act.put, List.setIfInBounds_toArray, List.set_cons_zero, List.set_cons_succ]
      refine wpAnyX_take (i := 9) (oi := _) (v := ?_) rfl (by kernel_rfl) (by kernel_rfl) (by kernel_rfl) (by kernel_rfl) (fun _ _ _ h => h) (Or.inl ⟨by rfl, ?_⟩) hS0 ?_
      rotate_left 1
      · (intro w hSw; (try dsimp only at hSw); go_simp; (try with_reducible rfl))
      try simp only [Act.put, List.setIfInBounds_toArray, List.set_cons_zero, List.set_cons_succ]
      refine wpAnyX_take (i := 10) (oi := _) (v := ?_) rfl (by kernel_rfl) (by kernel_rfl) (by kernel_rfl) (by kernel_rfl) (fun _ _ _ h => h) (Or.inl ⟨by rfl, ?_⟩) hS0 ?_
      rotate_left 1
      · (intro w hSw; (try dsimp only at hSw); go_simp; (try with_reducible rfl))
      try simp only [Act.put, List.setIfInBounds_toArray, List.set_cons_zero, List.set_cons_succ]
      refine wpAnyX_take (i := 11) (oi := _) (v := ?_) rfl (by kernel_rfl) (by kernel_rfl) (by kernel_rfl) (by kernel_rfl) (fun _ _ _ h => h) (Or.inl ⟨by rfl, ?_⟩) hS0 ?_
      rotate_left 1
      · (intro w hSw; (try dsimp only at hSw); go_simp; (try with_reducible rfl))
      try simp only [Act.put, List.setIfInBounds_toArray, List.set_cons_zero, List.set_cons_succ]
      refine wpAnyX_one (i := 12) (o := _) rfl (by kernel_rfl) (fun K hK => ?_)
      go_simp
      refine hK.out _ _ (fun _ => ?_) (fun hS1 => ?_)
      · first | exact ⟨kal (hS0.1), kal (hS0.2.1), kal (hS0.2.2.1), kal (hS0.2.2.2.1), kal (hS0.2.2.2.2.1), kal (hS0.2.2.2.2.2.1), kal (hS0.2.2.2.2.2.2)⟩ | exact ⟨kald (hS0.1), kald (hS0.2.1), kald (hS0.2.2.1), kald (hS0.2.2.2.1), kald (hS0.2.2.2.2.1), kald (hS0.2.2.2.2.2.1), kald (hS0.2.2.2.2.2.2)⟩
      clear hK K
      have hS1 := hS1 (by decide)
      try simp only [Act.put, List.setIfInBounds_toArray, List.set_cons_zero, List.set_cons_succ]
      refine wpAnyX_one (i := 13) (o := _) rfl (by kernel_rfl) (fun K hK => ?_)
      refine step_append_lies _ (by rfl) _ _ _ (by rfl) (w.heap.size + 1 + 1 + 1) 99 i0 _ 5 40 Try.underlying28 hi0 hz0 hz1 hz2 rfl (by omega) v j (csL (tab j F)) (by rfl) (((World.ownsRow.alloc (by have := HO.out; unfold Own5 at this; rw [tab_len] at this; exact this) _).drew)) ⟨wr.heap.size, 0, none⟩ 1 1 x.cs (by rfl) (by rfl) (World.news_of_block (cs := x.cs.toArray) (t := 99) (fr := (0, 0)) (heap_alloc_new _ _)) (by simp [D5.cs, Value.oneCell']) (by omega) (append_ok (by omega)).1 (append_ok (by omega)).2 (by simp; omega) (wr.heap.size + 1) (by simp) ?_; intro gg cap w9 hown9 hgrow9 hat9 hlt9
      refine hK.out _ _ (fun _ => ?_) (fun hS2 => ?_)
      · exact ⟨hgrow9.cell (hS1.1) nem, hgrow9.cell (hS1.2.1) neo, hgrow9.cell (hS1.2.2.1) neg, hgrow9.cell (hS1.2.2.2.1) neg, hgrow9.cell (hS1.2.2.2.2.1) neg, hgrow9.cell (hS1.2.2.2.2.2.1) neg, hgrow9.cell (hS1.2.2.2.2.2.2) neg⟩
      clear hK K
      have hS2 := hS2 (by decide)
      try simp only [Act.put, List.setIfInBounds_toArray, List.set_cons_zero, List.set_cons_succ]
      refine wpAnyX_take (i := 14) (oi := _) (v := ?_) rfl (by kernel_rfl) (by kernel_rfl) (by kernel_rfl) (by kernel_rfl) (fun _ _ _ h => h) (Or.inl ⟨by rfl, ?_⟩) hS2 ?_
      rotate_left 1
      · (intro w hSw; (try dsimp only at hSw); go_simp; (try with_reducible rfl))
      try simp only [Act.put, List.setIfInBounds_toArray, List.set_cons_zero, List.set_cons_succ]
      refine wpAnyX_one (i := 15) (o := _) rfl (by kernel_rfl) (fun K hK => ?_)
      have Yo := (Bx.drew (Bx.alloc Xo.out _)).grown hgrow9 neo
      have yo0 := Yo.c 0 rfl
      have yof := Yo.f 0
      go_simp
      refine hK.out _ _ (fun h => absurd rfl h) (fun _ => ?_)
      clear hK K
      try simp only [Act.put, List.setIfInBounds_toArray, List.set_cons_zero, List.set_cons_succ]
      refine wpAnyX_done (by kernel_rfl) ?_ _
      go_wp2_with (fail)
      go_roundg m
      case measure => omega
      case rel =>
        have hz9 := hgrow9.size
        simp only [World.size_alloc, World.size_drew] at hz9
        have Ym := (Bx.drew (Bx.alloc Xm.out _)).grown hgrow9 nem
        have Yz := (Bx.drew (Bx.alloc Xz.out _)).grown hgrow9 nez
        refine ⟨j + 1, .slice (some ⟨gg, 0, none⟩) (j + 1) cap, by omega, by go_num, Ym.far (by omega), Yz.far (by omega), Yo.set rfl, ?_, by (try simp only [World.size_setCell, World.size_drew]); omega, ?_⟩
        · show Own5 _ _ _ _ _
          rw [tab_succ, HX.out]
          exact (Own5.snoc (tab_len _ _) hown9).far (by show w.heap.size + 1 + 1 < _; omega) _
        · refine Below.setCell ?_ (by show w.heap.size ≤ w.heap.size + 1 + 1; omega) _
          refine Below.grown (((hB.alloc (by omega) _)).drew) hgrow9 (by simp only [World.size_drew, World.size_alloc]; omega) (fun q e => by have := (hvl _ e).1; omega)


end Go.Proofs.Ytofclfgaekjonaa
namespace Go.Proofs.Ytofclfgaekjonaa
open Go.RowKit RM
set_option linter.unusedSimpArgs false
theorem fieldsOf_of {P : Program} {t : TypeId} {fs : Array Field} (h : P.underlying t = some (.struct fs)) : P.fieldsOf t = fs := by unfold Program.fieldsOf; rw [h]
theorem fR : ∃ f0 f1 f2 f3 : Field, (Try.prog.fieldsOf 97).toList = [f0, f1, f2, f3] ∧ (f0.type = 3 ∧ f1.type = 3 ∧ f2.type = 3 ∧ f3.type = 3) ∧ (f0.offset = 0 ∧ f1.offset = 1 ∧ f2.offset = 2 ∧ f3.offset = 3) ∧ (f0.name ≠ "_" ∧ f1.name ≠ "_" ∧ f2.name ≠ "_" ∧ f3.name ≠ "_") :=
  ⟨_, _, _, _, congrArg Array.toList (fieldsOf_of Try.underlying97), ⟨rfl, rfl, rfl, rfl⟩, ⟨rfl, rfl, rfl, rfl⟩, ⟨by decide, by decide, by decide, by decide⟩⟩
theorem fD : ∃ f0 f1 : Field, (Try.prog.fieldsOf 99).toList = [f0, f1] ∧ (f0.type = 97 ∧ f1.type = 3) ∧ (f0.offset = 0 ∧ f1.offset = 4) ∧ (f0.name ≠ "_" ∧ f1.name ≠ "_") :=
  ⟨_, _, congrArg Array.toList (fieldsOf_of Try.underlying99), ⟨rfl, rfl⟩, ⟨rfl, rfl⟩, ⟨by decide, by decide⟩⟩
theorem pR (a b c d : Int) (w : World) : (part 3 #[.int .i64 a, .int .i64 b, .int .i64 c, .int .i64 d] 0).run Try.prog w = .ok (.int .i64 a) w ∧ (part 3 #[.int .i64 a, .int .i64 b, .int .i64 c, .int .i64 d] 1).run Try.prog w = .ok (.int .i64 b) w
    ∧ (part 3 #[.int .i64 a, .int .i64 b, .int .i64 c, .int .i64 d] 2).run Try.prog w = .ok (.int .i64 c) w ∧ (part 3 #[.int .i64 a, .int .i64 b, .int .i64 c, .int .i64 d] 3).run Try.prog w = .ok (.int .i64 d) w :=
  ⟨by kernel_rfl, by kernel_rfl, by kernel_rfl, by kernel_rfl⟩
theorem pD (a b c d e : Int) (w : World) : (part 97 #[.int .i64 a, .int .i64 b, .int .i64 c, .int .i64 d, .int .i64 e] 0).run Try.prog w = .ok (rg a b c d) w ∧ (part 3 #[.int .i64 a, .int .i64 b, .int .i64 c, .int .i64 d, .int .i64 e] 4).run Try.prog w = .ok (.int .i64 e) w :=
  ⟨by kernel_rfl, by kernel_rfl⟩
theorem uR : Try.prog.underlying 97 = some (.struct (Try.prog.fieldsOf 97)) := by kernel_rfl
theorem uD : Try.prog.underlying 99 = some (.struct (Try.prog.fieldsOf 99)) := by kernel_rfl
theorem sR : Try.prog.stoodInHeld 97 = false := by kernel_rfl
theorem sD : Try.prog.stoodInHeld 99 = false := by kernel_rfl
theorem eqR (k : Nat) (a b c d p q r s : Int) (w : World) : (Op.equalIn (k + 2) 97 (rg a b c d) (rg p q r s)).run Try.prog w = .ok (a == p && (b == q && (c == r && d == s))) w := by
  obtain ⟨f0, f1, f2, f3, hf, ⟨t0, t1, t2, t3⟩, ⟨o0, o1, o2, o3⟩, ⟨n0, n1, n2, n3⟩⟩ := fR
  rw [run_equalIn_struct w (k + 1) _ _ _ uR sR, hf]
  obtain ⟨x0, x1, x2, x3⟩ := pR a b c d w
  obtain ⟨y0, y1, y2, y3⟩ := pR p q r s w
  have e0 := fun w => run_equalIn_int w k 3 .i64 .i64 a p Try.underlying3
  have e1 := fun w => run_equalIn_int w k 3 .i64 .i64 b q Try.underlying3
  have e2 := fun w => run_equalIn_int w k 3 .i64 .i64 c r Try.underlying3
  have e3 := fun w => run_equalIn_int w k 3 .i64 .i64 d s Try.underlying3
  cases h0 : (a == p) <;> cases h1 : (b == q) <;> cases h2 : (c == r) <;> cases h3 : (d == s) <;> (rw [h0] at e0; rw [h1] at e1; rw [h2] at e2; rw [h3] at e3; simp [Op.eqFields, t0, t1, t2, t3, o0, o1, o2, o3, n0, n1, n2, n3, x0, x1, x2, x3, y0, y1, y2, y3, e0, e1, e2, e3])
theorem eqD (k : Nat) (a b c d e p q r s f : Int) (w : World) : (Op.equalIn (k + 3) 99 (dy a b c d e) (dy p q r s f)).run Try.prog w = .ok ((a == p && (b == q && (c == r && d == s))) && e == f) w := by
  obtain ⟨f0, f1, hf, ⟨t0, t1⟩, ⟨o0, o1⟩, ⟨n0, n1⟩⟩ := fD
  rw [run_equalIn_struct w (k + 2) _ _ _ uD sD, hf]
  obtain ⟨x0, x1⟩ := pD a b c d e w
  obtain ⟨y0, y1⟩ := pD p q r s f w
  have e0 := fun w => eqR k a b c d p q r s w
  have e1 := fun w => run_equalIn_int w (k + 1) 3 .i64 .i64 e f Try.underlying3
  cases h0 : (a == p && (b == q && (c == r && d == s))) <;> cases h1 : (e == f) <;> (rw [h0] at e0; rw [h1] at e1; simp [Op.eqFields, t0, t1, o0, o1, n0, n1, x0, x1, y0, y1, e0, e1])
theorem run_neqD (a b c d e p q r s f : Int) (v : Bool) (w : World) (h : ((a == p && (b == q && (c == r && d == s))) && e == f) = v) : (binOp .neq 99 (dy a b c d e) (dy p q r s f)).run Try.prog w = .ok (.bool (!v)) w := by
  subst h
  simp only [binOp]
  simp [Op.equal, Op.maxDepth, eqD 9997 a b c d e p q r s f w]
theorem eqv5 {x y : D5} : ((x.a == y.a && (x.b == y.b && (x.c == y.c && x.d == y.d))) && x.e == y.e) = decide (x.a = y.a ∧ x.b = y.b ∧ x.c = y.c ∧ x.d = y.d ∧ x.e = y.e) := by
  rw [Bool.eq_iff_iff]; simp [and_assoc]
theorem ne_all5 {x y : D5} (h : x ≠ y) : ¬ (x.a = y.a ∧ x.b = y.b ∧ x.c = y.c ∧ x.d = y.d ∧ x.e = y.e) := by
  obtain ⟨a, b, c, d, e⟩ := x
  obtain ⟨p, q, r, s, f⟩ := y
  rintro ⟨rfl, rfl, rfl, rfl, rfl⟩
  exact h rfl
/-- two numbers that differ; a number and itself -/
theorem neq_t {x y : D5} (h : x ≠ y) (w : World) : (binOp .neq 99 x.v y.v).run Try.prog w = .ok (.bool true) w :=
  run_neqD _ _ _ _ _ _ _ _ _ _ false w (by rw [eqv5, decide_eq_false (ne_all5 h)])
theorem neq_f (x : D5) (w : World) : (binOp .neq 99 x.v x.v).run Try.prog w = .ok (.bool false) w :=
  run_neqD _ _ _ _ _ _ _ _ _ _ true w (by rw [eqv5]; simp)
end Go.Proofs.Ytofclfgaekjonaa
namespace Go.Proofs.Ytofclfgaekjonaa
open Go.RowKit RM
set_option linter.unusedVariables false
set_option linter.unusedSimpArgs false
theorem vr_turn_6 {a b c d : Int} (h : vr a b c d = true) : vr c d (-a) (-b) = true := by
  rw [vr_iff] at *; omega
theorem mc_6 (a b c d : Int) (w : World) (hx : vr a b c d = true) :
    Calls Try.prog 179 #[rg a b c d, rg 0 0 (-1) 0] w fun e w' => e = .returned (rg c d (-a) (-b)) ∧ Below w.heap.size w w' := by
  have h := mc a b c d 0 0 (-1) 0 w hx (by decide)
  have e0 : m0 a b c d 0 0 (-1) 0 = c := by simp [m0]
  have e1 : m1 a b c d 0 0 (-1) 0 = d := by simp [m1]
  have e2 : m2 a b c d 0 0 (-1) 0 = -a := by simp [m2]
  have e3 : m3 a b c d 0 0 (-1) 0 = -b := by simp [m3]
  rw [e0, e1, e2, e3] at h
  exact h

set_option maxRecDepth 100000 in
set_option maxHeartbeats 2000000 in
theorem omega_i_6 (a b c d k : Int) (w : World) (t1 : -7 ≤ k.tmod 8) (t2 : k.tmod 8 ≤ 7) (t3 : (k.tmod 8 + 8) % 8 = 6) (t4 : (k.tmod 8 + 8).tmod 8 = 6) (g1 : -1000 ≤ k) (g2 : k ≤ 1000) (hx : vr a b c d = true) :
    Calls Try.prog 137 #[rg a b c d, .int .i64 k] w fun e w' => e = .returned (rt c d (-a) (-b) true) ∧ Below w.heap.size w w' := by
  have HX := hid hx
  clear hx
  go_enter Try.func137, Try.ntmps137
  go_wp2_with (first | (go_at_call 172; ((with_reducible refine (iv_t _ _ _ _ _ HX.out).mono ?_); rintro e w1 ⟨rfl, hb1⟩; obtain ⟨hc1, hf1, _⟩ := bcell hb1; have hz1 := hb1.size; (try simp at hz1); (try have hx10 : w.heap.size < w1.heap.size := (by omega)); (try have hx11 : w.heap.size + 1 < w1.heap.size := (by omega)); (try have hx12 : w.heap.size + 1 + 1 < w1.heap.size := (by omega)); (try have hx13 : w.heap.size + 1 + 1 + 1 < w1.heap.size := (by omega)))))
  go_region_with (first
   | (go_at_call 180; ((with_reducible refine (co _ _ _ _ _).mono ?_); rintro e w3 ⟨rfl, hb3⟩; ((first | (have hq3 := bcell_drew hb3) | (have hq3 := bcell hb3))); obtain ⟨hc3, hf3, hz3⟩ := hq3; (try simp at hz3); (try have hx30 : w.heap.size < w3.heap.size := (by omega)); (try have hx31 : w.heap.size + 1 < w3.heap.size := (by omega)); (try have ho3 : w1.heap.size < w3.heap.size := (by omega))))
   | (go_at_call 179; ((with_reducible refine (mc_6 _ _ _ _ _ HX.out).mono ?_); rintro e w4 ⟨rfl, hb4⟩; ((first | (have hq4 := bcell_drew hb4) | (have hq4 := bcell hb4))); obtain ⟨hc4, hf4, hz4⟩ := hq4; (try simp at hz4); (try have hx40 : w.heap.size < w4.heap.size := (by omega)); (try have hx41 : w.heap.size + 1 < w4.heap.size := (by omega)); (try have ho4 : w1.heap.size < w4.heap.size := (by omega))))
   | (go_at_call 178; ((with_reducible refine (ro_t _ _ _ _ _ (vr_turn_6 HX.out)).mono ?_); rintro e w5 ⟨rfl, hb5⟩; ((first | (have hq5 := bcell_drew hb5) | (have hq5 := bcell hb5))); obtain ⟨hc5, hf5, hz5⟩ := hq5; (try simp at hz5); (try have hx50 : w.heap.size < w5.heap.size := (by omega)); (try have hx51 : w.heap.size + 1 < w5.heap.size := (by omega)); (try have ho5 : w1.heap.size < w5.heap.size := (by omega)))))
  all_goals (go_wp2; refine bodyPost_ret (v := rt c d (-a) (-b) true) (by simp [results, Try.results137, go_sem, *]) rfl ⟨rfl, ?_⟩)
  all_goals (repeat' (first | (with_reducible exact Below.refl _ _) | (with_reducible refine Below.alloc ?_ ?_ _) | (with_reducible refine Below.drew ?_) | (with_reducible refine Below.setCell ?_ ?_ _) | (with_reducible refine chain ?_ (by assumption) ?_) | omega | (simp; done) | (simp; omega)))
theorem vr_turn_7 {a b c d : Int} (h : vr a b c d = true) : vr b c d (-a) = true := by
  rw [vr_iff] at *; omega
theorem mc_7 (a b c d : Int) (w : World) (hx : vr a b c d = true) :
    Calls Try.prog 179 #[rg a b c d, rg 0 0 0 (-1)] w fun e w' => e = .returned (rg b c d (-a)) ∧ Below w.heap.size w w' := by
  have h := mc a b c d 0 0 0 (-1) w hx (by decide)
  have e0 : m0 a b c d 0 0 0 (-1) = b := by simp [m0]
  have e1 : m1 a b c d 0 0 0 (-1) = c := by simp [m1]
  have e2 : m2 a b c d 0 0 0 (-1) = d := by simp [m2]
  have e3 : m3 a b c d 0 0 0 (-1) = -a := by simp [m3]
  rw [e0, e1, e2, e3] at h
  exact h

set_option maxRecDepth 100000 in
set_option maxHeartbeats 2000000 in
theorem omega_i_7 (a b c d k : Int) (w : World) (t1 : -7 ≤ k.tmod 8) (t2 : k.tmod 8 ≤ 7) (t3 : (k.tmod 8 + 8) % 8 = 7) (t4 : (k.tmod 8 + 8).tmod 8 = 7) (g1 : -1000 ≤ k) (g2 : k ≤ 1000) (hx : vr a b c d = true) :
    Calls Try.prog 137 #[rg a b c d, .int .i64 k] w fun e w' => e = .returned (rt b c d (-a) true) ∧ Below w.heap.size w w' := by
  have HX := hid hx
  clear hx
  go_enter Try.func137, Try.ntmps137
  go_wp2_with (first | (go_at_call 172; ((with_reducible refine (iv_t _ _ _ _ _ HX.out).mono ?_); rintro e w1 ⟨rfl, hb1⟩; obtain ⟨hc1, hf1, _⟩ := bcell hb1; have hz1 := hb1.size; (try simp at hz1); (try have hx10 : w.heap.size < w1.heap.size := (by omega)); (try have hx11 : w.heap.size + 1 < w1.heap.size := (by omega)); (try have hx12 : w.heap.size + 1 + 1 < w1.heap.size := (by omega)); (try have hx13 : w.heap.size + 1 + 1 + 1 < w1.heap.size := (by omega)))))
  go_region_with (first
   | (go_at_call 180; ((with_reducible refine (co _ _ _ _ _).mono ?_); rintro e w3 ⟨rfl, hb3⟩; ((first | (have hq3 := bcell_drew hb3) | (have hq3 := bcell hb3))); obtain ⟨hc3, hf3, hz3⟩ := hq3; (try simp at hz3); (try have hx30 : w.heap.size < w3.heap.size := (by omega)); (try have hx31 : w.heap.size + 1 < w3.heap.size := (by omega)); (try have ho3 : w1.heap.size < w3.heap.size := (by omega))))
   | (go_at_call 179; ((with_reducible refine (mc_7 _ _ _ _ _ HX.out).mono ?_); rintro e w4 ⟨rfl, hb4⟩; ((first | (have hq4 := bcell_drew hb4) | (have hq4 := bcell hb4))); obtain ⟨hc4, hf4, hz4⟩ := hq4; (try simp at hz4); (try have hx40 : w.heap.size < w4.heap.size := (by omega)); (try have hx41 : w.heap.size + 1 < w4.heap.size := (by omega)); (try have ho4 : w1.heap.size < w4.heap.size := (by omega))))
   | (go_at_call 178; ((with_reducible refine (ro_t _ _ _ _ _ (vr_turn_7 HX.out)).mono ?_); rintro e w5 ⟨rfl, hb5⟩; ((first | (have hq5 := bcell_drew hb5) | (have hq5 := bcell hb5))); obtain ⟨hc5, hf5, hz5⟩ := hq5; (try simp at hz5); (try have hx50 : w.heap.size < w5.heap.size := (by omega)); (try have hx51 : w.heap.size + 1 < w5.heap.size := (by omega)); (try have ho5 : w1.heap.size < w5.heap.size := (by omega)))))
  all_goals (go_wp2; refine bodyPost_ret (v := rt b c d (-a) true) (by simp [results, Try.results137, go_sem, *]) rfl ⟨rfl, ?_⟩)
  all_goals (repeat' (first | (with_reducible exact Below.refl _ _) | (with_reducible refine Below.alloc ?_ ?_ _) | (with_reducible refine Below.drew ?_) | (with_reducible refine Below.setCell ?_ ?_ _) | (with_reducible refine chain ?_ (by assumption) ?_) | omega | (simp; done) | (simp; omega)))
end Go.Proofs.Ytofclfgaekjonaa
