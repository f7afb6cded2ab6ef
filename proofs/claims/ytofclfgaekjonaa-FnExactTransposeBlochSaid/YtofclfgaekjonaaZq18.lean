/- Bsd, Bld, Sign, SignB, SubI, Bik, Bia, Bib -/
import Derived.Test.YtofclfgaekjonaaZq14
import Derived.Test.YtofclfgaekjonaaZq17
import Derived.Test.YtofclfgaekjonaaZq13
import Derived.Test.YtofclfgaekjonaaZq1
import Derived.Deep.LoopGhost
import Derived.Test.YtofclfgaekjonaaZq2
import Derived.Test.YtofclfgaekjonaaZq4
import Derived.Test.YtofclfgaekjonaaZq15
namespace Go.Proofs.Ytofclfgaekjonaa
open Go.RowKit RM
set_option linter.unusedVariables false
set_option linter.unusedSimpArgs false
attribute [local irreducible] World.setCell

theorem kst1 {a : World} {g k o : Nat} {v v0 : Value} (hne : g ≠ k) (h : a.cell? ⟨k, o, none⟩ = some v) : (a.setCell ⟨g, 0, none⟩ v0).cell? ⟨k, o, none⟩ = some v := by
  rw [World.cell?_setCell_far _ _ _ _ hne, h]
/-- real -/
def rl5 (x : D5) : Bool := (x.c == 0) && (x.d == -x.b)
def allR (xs : List D5) : Bool := xs.all (fun x => x.ok && rl5 x)
theorem allR_get {xs : List D5} (h : allR xs = true) {k : Nat} {x : D5} (hx : xs[k]? = some x) : (x.ok && rl5 x) = true := List.all_eq_true.1 h x (List.mem_of_getElem? hx)
theorem allR_not {xs : List D5} {k : Nat} {x : D5} (hx : xs[k]? = some x) (h : (x.ok && rl5 x) = false) : allR xs = false := by
  cases hq : allR xs
  · rfl
  · rw [allR_get hq hx] at h; cases h
theorem takeR {xs : List D5} {j : Nat} {x : D5} (hx : xs[j]? = some x) (h : allR (xs.take j) = true) (hk : (x.ok && rl5 x) = true) : allR (xs.take (j + 1)) = true := by
  unfold allR at h ⊢
  rw [List.take_add_one, hx, List.all_append, h]
  simp [hk]
theorem allR_B {xs : List D5} (h : allR xs = true) : allB xs = true := by
  unfold allR at h
  unfold allB
  rw [List.all_eq_true] at h ⊢
  intro x hx
  have := h x hx
  rw [Bool.and_eq_true] at this
  exact this.1
/-- a Bloch matrix that is valid -/
def okBl (n : Nat) (xs : List D5) : Bool := decide (n = 9) && (allR xs && (!(anyB 9 (mmG 3 3 xs (tab 9 (tpF xs)))) && (eqL (tab 9 (mmF 3 3 xs (tab 9 (tpF xs)))) (tab 9 (unitP 3 3)) && (!(detZ (fun i => xs.getD i z5)) && (detV2 (fun i => xs.getD i z5)).1.beq one5))))
theorem okBl_n {n : Nat} {xs : List D5} (h : n ≠ 9) : okBl n xs = false := by unfold okBl; simp [h]
theorem okBl_c {n : Nat} {xs : List D5} (h : allR xs = false) : okBl n xs = false := by unfold okBl; rw [h]; simp
theorem okBl_iff {n : Nat} {xs : List D5} (h : okBl n xs = true) : n = 9 ∧ allR xs = true := by
  unfold okBl at h
  simp only [Bool.and_eq_true, decide_eq_true_eq] at h
  exact ⟨h.1, h.2.1⟩
theorem Rd.ltA {W : World} {A : Option Addr} {xs : List D5} (h : Rd W A xs) (hl : 0 < xs.length) : ∀ a, A = some a → a.block < W.heap.size := by
  intro a ha
  subst ha
  obtain ⟨g9, o9, e9, hc9⟩ := h 0 xs[0] (List.getElem?_eq_getElem hl)
  obtain rfl := Option.some.inj e9
  exact hc9.lt
theorem mnr_ok {xs : List D5} (hl : xs.length = 9) (h : allB xs = true) {j k : Nat} (hj : j < 3) (hk : k < 3) : (mnr (fun i => xs.getD i z5) j k).1.ok = true := by
  unfold mnr
  exact addS_ok (mulS_ok (okD h (by omega)) (okD h (by omega))) (neg5_ok (mulS_ok (okD h (by omega)) (okD h (by omega))))
/-- the model's answer, out of what it has -/
theorem okBl_fin {xs zs : List D5} {z : Bool} (hl : xs.length = 9) (hR : allR xs = true) (hS : Sofar z zs 9 (mmF 3 3 xs (tab 9 (tpF xs))) (mmG 3 3 xs (tab 9 (tpF xs)))) : okBl 9 xs = (!(z || detZ (fun i => xs.getD i z5)) && (eqL zs (tab 9 (unitP 3 3)) && (detV2 (fun i => xs.getD i z5)).1.beq one5)) := by
  obtain ⟨h1, h2, h3⟩ := hS
  unfold okBl
  rw [hR, ← h2]
  cases z
  · rw [h3 rfl]
    simp only [decide_true, Bool.true_and, Bool.not_false, Bool.false_or]
    cases eqL (tab 9 (mmF 3 3 xs (tab 9 (tpF xs)))) (tab 9 (unitP 3 3)) <;> cases detZ (fun i => xs.getD i z5) <;> simp
  · simp
theorem mnr_t12 {g0 gc cp : Nat} {xs : List D5} {z : Bool} {w : World} {m : D5 × Bool} (hA : Rd w (some ⟨g0, 0, none⟩) xs) (hl : xs.length = 9) (hok : allB xs = true) (hc : Bx w gc 116 #[.bool z]) (hne : gc ≠ g0) (hm : mnr (fun i => xs.getD i z5) 1 2 = m) :
    Calls Try.prog 124 #[.pointer (some ⟨gc, 0, none⟩), bv (some ⟨g0, 0, none⟩) 9 cp, .int .i64 1, .int .i64 2] w fun ee w' => ee = .returned m.1.v ∧ Below w.heap.size (w.setCell ⟨gc, 0, none⟩ (.bool (z || m.2))) w' := by
  rw [← hm]; exact mnr_s12 hA hl hok hc hne
theorem mnr_t02 {g0 gc cp : Nat} {xs : List D5} {z : Bool} {w : World} {m : D5 × Bool} (hA : Rd w (some ⟨g0, 0, none⟩) xs) (hl : xs.length = 9) (hok : allB xs = true) (hc : Bx w gc 116 #[.bool z]) (hne : gc ≠ g0) (hm : mnr (fun i => xs.getD i z5) 0 2 = m) :
    Calls Try.prog 124 #[.pointer (some ⟨gc, 0, none⟩), bv (some ⟨g0, 0, none⟩) 9 cp, .int .i64 0, .int .i64 2] w fun ee w' => ee = .returned m.1.v ∧ Below w.heap.size (w.setCell ⟨gc, 0, none⟩ (.bool (z || m.2))) w' := by
  rw [← hm]; exact mnr_s02 hA hl hok hc hne
theorem mnr_t01 {g0 gc cp : Nat} {xs : List D5} {z : Bool} {w : World} {m : D5 × Bool} (hA : Rd w (some ⟨g0, 0, none⟩) xs) (hl : xs.length = 9) (hok : allB xs = true) (hc : Bx w gc 116 #[.bool z]) (hne : gc ≠ g0) (hm : mnr (fun i => xs.getD i z5) 0 1 = m) :
    Calls Try.prog 124 #[.pointer (some ⟨gc, 0, none⟩), bv (some ⟨g0, 0, none⟩) 9 cp, .int .i64 0, .int .i64 1] w fun ee w' => ee = .returned m.1.v ∧ Below w.heap.size (w.setCell ⟨gc, 0, none⟩ (.bool (z || m.2))) w' := by
  rw [← hm]; exact mnr_s01 hA hl hok hc hne
theorem kst5 {a : World} {g k o : Nat} {v v0 v1 v2 v3 v4 : Value} (hne : g ≠ k) (h : a.cell? ⟨k, o, none⟩ = some v) : (((((a.setCell ⟨g, 0, none⟩ v0).setCell ⟨g, 1, none⟩ v1).setCell ⟨g, 2, none⟩ v2).setCell ⟨g, 3, none⟩ v3).setCell ⟨g, 4, none⟩ v4).cell? ⟨k, o, none⟩ = some v := by
  rw [World.cell?_setCell_far _ _ _ _ hne, World.cell?_setCell_far _ _ _ _ hne, World.cell?_setCell_far _ _ _ _ hne, World.cell?_setCell_far _ _ _ _ hne, World.cell?_setCell_far _ _ _ _ hne, h]

end Go.Proofs.Ytofclfgaekjonaa
namespace Go.Proofs.Ytofclfgaekjonaa
open Go.RowKit RM
set_option linter.unusedVariables false
set_option linter.unusedSimpArgs false
attribute [local irreducible] World.setCell

set_option maxRecDepth 100000 in
set_option maxHeartbeats 4000000 in
theorem sm_s {A B : Option Addr} {n cp cp' : Nat} {xs ys : List D5} {w : World} (hA : Rd w A xs) (hB : Rd w B ys) (hn : xs.length = n) (hm : ys.length = n) (hb : n ≤ 1048576) :
    Calls Try.prog 127 #[bv A n cp, bv B n cp'] w fun ee w' => ee = .returned (.bool (eqL xs ys)) ∧ Below w.heap.size w w' := by
  have HA := hid hA
  have HB := hid hB
  have HN := hid hn
  have HM := hid hm
  clear hA hB hn hm
  go_enter Try.func127, Try.ntmps127
  go_wp2_with (fail)
  go_loopg [9] n (fun k s1 wr => ∃ j : Nat, j + k = n ∧ s1 = .int .i64 (j : Int) ∧ Hid (xs.take j = ys.take j) ∧ wr.cell? ⟨w.heap.size, 0, none⟩ = some (.slice A n cp) ∧ wr.cell? ⟨w.heap.size + 1, 0, none⟩ = some (.slice B n cp') ∧ Below w.heap.size w wr)
  case atStart => exact ⟨0, by omega, rfl, rfl, by first | rfl | (simp; done), by first | rfl | (simp; done), by (repeat' (first | (with_reducible exact Below.refl _ _) | (with_reducible assumption) | (with_reducible refine Below.alloc ?_ ?_ _) | (with_reducible refine Below.drew ?_) | (with_reducible refine below_drewN ?_ _) | (with_reducible refine Below.setCell ?_ ?_ _) | (with_reducible refine chain ?_ (by assumption) ?_) | omega | (simp; done) | (simp; omega)))⟩
  case round =>
    obtain ⟨j, hj, rfl, HJ, k0, k1, hB⟩ := hrel
    cases gk with
    | zero =>
      obtain rfl : j = n := by omega
      go_wp2_with (fail)
      go_ret
      exact ⟨by rw [eqL_end HN.out HM.out HJ.out]; rfl, hB⟩
    | succ m =>
      have hlt : j < n := by omega
      obtain ⟨x, hx⟩ : ∃ x, xs[j]? = some x := ⟨_, List.getElem?_eq_getElem (by rw [HN.out]; exact hlt)⟩
      obtain ⟨y, hy⟩ : ∃ y, ys[j]? = some y := ⟨_, List.getElem?_eq_getElem (by rw [HM.out]; exact hlt)⟩
      obtain ⟨g, o, rfl, hC⟩ := HA.out j x hx
      obtain ⟨g', o', rfl, hC'⟩ := HB.out j y hy
      have HX := hid hx
      have HY := hid hy
      clear hx hy
      obtain ⟨q0, q1, q2, q3, q4⟩ := hC.at_ (hB.block g hC.lt)
      obtain ⟨p0, p1, p2, p3, p4⟩ := hC'.at_ (hB.block g' hC'.lt)
      clear hC hC'
      by_cases hxy : x = y
      · subst hxy
        have hop := neq_f x
        go_wp2_with (fail)
        go_quiet (fail)
        go_wp2_with (fail)
        go_roundg m
        case measure => omega
        case rel => exact ⟨j + 1, by omega, by go_num, take_eq HX.out HY.out HJ.out, k0, k1, by (repeat' (first | (with_reducible exact Below.refl _ _) | (with_reducible assumption) | (with_reducible refine Below.alloc ?_ ?_ _) | (with_reducible refine Below.drew ?_) | (with_reducible refine below_drewN ?_ _) | (with_reducible refine Below.setCell ?_ ?_ _) | (with_reducible refine chain ?_ (by assumption) ?_) | omega | (simp; done) | (simp; omega)))⟩
      · have HNE := hid hxy
        have hop := neq_t hxy
        clear hxy
        go_wp2_with (fail)
        go_quiet (fail)
        go_wp2_with (fail)
        go_ret
        refine ⟨by rw [eqL_at HX.out HY.out HNE.out]; rfl, ?_⟩
        (repeat' (first | (with_reducible exact Below.refl _ _) | (with_reducible assumption) | (with_reducible refine Below.alloc ?_ ?_ _) | (with_reducible refine Below.drew ?_) | (with_reducible refine below_drewN ?_ _) | (with_reducible refine Below.setCell ?_ ?_ _) | (with_reducible refine chain ?_ (by assumption) ?_) | omega | (simp; done) | (simp; omega)))

set_option maxRecDepth 100000 in
set_option maxHeartbeats 4000000 in
theorem un9_s {w : World} :
    Calls Try.prog 128 #[] w fun ee w' => ee = .returned (bv (some ⟨w.heap.size + 1, 0, none⟩) 9 9) ∧ Bk w' (w.heap.size + 1) 99 (tab 9 (unitP 3 3)) ∧ Below w.heap.size w w' := by
  obtain ⟨Z, hZ⟩ : ∃ Z, Z = (csL (List.replicate 9 z5)).toArray := ⟨_, rfl⟩
  have HZ := hid hZ
  have hmk : ∀ w : World, (Instr.makeSlice 28 (.int .i64 (9 : Int)) (.int .i64 (9 : Int))).run Try.prog w = .ok (.slice (some ⟨w.heap.size, 0, none⟩) 9 9) (w.alloc (.cells Z 99)) := fun w => by rw [hZ]; exact mkD 9 (by omega) w
  clear hZ
  go_enter Try.func128, Try.ntmps128
  go_wp2_with (fail)
  go_loopg [2] 3 (fun q s1 wr => ∃ j : Nat, j + q = 3 ∧ s1 = .int .i64 (j : Int) ∧ Hid (Bx wr (w.heap.size) 51 #[.slice none 0 0]) ∧ Hid (Bx wr (w.heap.size + 1 + 1) 51 #[.slice (some ⟨w.heap.size + 1, 0, none⟩) 9 9]) ∧ Hid (Bk wr (w.heap.size + 1) 99 (tab 9 (unitP 3 j))) ∧ w.heap.size + 1 + 1 + 1 ≤ wr.heap.size ∧ Below w.heap.size w wr)
  case atStart =>
    refine ⟨0, by omega, rfl, (by show Bx _ _ _ _; (repeat' (first | (with_reducible assumption) | (refine Bx.new (by first | (with_reducible rfl) | (simp; done))) | (with_reducible refine Bx.alloc ?_ _) | (with_reducible refine Bx.drew ?_) | (with_reducible refine Bx.drewN ?_ _) | (with_reducible refine Bx.mono ?_ (by assumption)) | (with_reducible refine Bx.badly ?_ (by assumption) (by omega)) | (with_reducible refine Bx.far ?_ (by (try simp only [World.size_alloc, World.size_drew]); omega)) | (with_reducible refine Bx.set ?_ rfl) | (with_reducible refine Bx.grown ?_ (by assumption) (by assumption))))), (by show Bx _ _ _ _; (repeat' (first | (with_reducible assumption) | (refine Bx.new (by first | (with_reducible rfl) | (simp; done))) | (with_reducible refine Bx.alloc ?_ _) | (with_reducible refine Bx.drew ?_) | (with_reducible refine Bx.drewN ?_ _) | (with_reducible refine Bx.mono ?_ (by assumption)) | (with_reducible refine Bx.badly ?_ (by assumption) (by omega)) | (with_reducible refine Bx.far ?_ (by (try simp only [World.size_alloc, World.size_drew]); omega)) | (with_reducible refine Bx.set ?_ rfl) | (with_reducible refine Bx.grown ?_ (by assumption) (by assumption))))), ?_, by simp, by (repeat' (first | (with_reducible exact Below.refl _ _) | (with_reducible assumption) | (with_reducible refine Below.alloc ?_ ?_ _) | (with_reducible refine Below.drew ?_) | (with_reducible refine below_drewN ?_ _) | (with_reducible refine Below.setCell ?_ ?_ _) | (with_reducible refine chain ?_ (by assumption) ?_) | omega | (simp; done) | (simp; omega)))⟩
    show Bk _ _ _ _
    rw [unitP_0, HZ.out]
    (repeat' (first | exact Bk.made' (by simp) | refine Bk.alloc ?_ _ | refine Bk.far ?_ (by simp) _))
  case round =>
    obtain ⟨j, hj, rfl, Xz, Xo, HG, hsz, hB⟩ := hrel
    have cz0 := Xz.out.c 0 rfl
    have lz := Xz.out.lt
    have fz := Xz.out.f
    have co0 := Xo.out.c 0 rfl
    have lo := Xo.out.lt
    have fo := Xo.out.f
    cases gk with
    | zero =>
      have j9 : ¬ ((j : Int) < 3) := by omega
      have hG9 := HG.out
      rw [show j = 3 by omega] at hG9
      have HG9 := hid hG9
      clear hG9
      have hBq := hB.size
      go_wp2_with (fail)
      refine bodyPost_ret (v := bv (some ⟨w.heap.size + 1, 0, none⟩) 9 9) (by first | (simp [results, Try.results128, go_sem, *]; done) | (simp (disch := (first | omega | (simp; done) | (simp; omega))) [results, Try.results128, go_sem, *]; done) | (simp only [results, Try.results128]; go_simp; done)) rfl ?_
      (first | refine ⟨rfl, ?_, ?_⟩ | refine ⟨?_, ?_⟩)
      · (repeat' (first | exact HG9.out | refine Bk.far ?_ (by show w.heap.size + 1 ≠ w.heap.size; omega) _))
      · (repeat' (first | (with_reducible exact Below.refl _ _) | (with_reducible assumption) | (with_reducible refine Below.alloc ?_ ?_ _) | (with_reducible refine Below.drew ?_) | (with_reducible refine below_drewN ?_ _) | (with_reducible refine Below.setCell ?_ ?_ _) | (with_reducible refine chain ?_ (by assumption) ?_) | omega | (simp; done) | (simp; omega)))
    | succ m =>
      have hlt : j < 3 := by omega
      have j1 : (j : Int) < 3 := by omega
      obtain ⟨u, hu⟩ : ∃ u, u = j * 3 + j := ⟨_, rfl⟩
      have hq : u < 9 := by omega
      have HU : Hid (u = j * 3 + j) := hu
      have q1 : (4 : Int) * (j : Int) = (u : Int) := by omega
      have q2 : IntKind.i64.wrap (u : Int) = (u : Int) := IntWalk.i64_in _ (by omega)
      have q4 : (u : Int) < 9 := by omega
      have hBq := hB.size
      clear hu
      go_wp2_with (fail)
      have yco0 : wr.drew.cell? ⟨w.heap.size + 1 + 1, 0, none⟩ = some (.slice (some ⟨w.heap.size + 1, 0, none⟩) 9 9) := co0
      have ycz0 : wr.drew.cell? ⟨w.heap.size, 0, none⟩ = some (.slice none 0 0) := cz0
      refine wp_region_x (fun w' => w'.cell? ⟨w.heap.size + 1 + 1, 0, none⟩ = some (.slice (some ⟨w.heap.size + 1, 0, none⟩) 9 9) ∧ w'.cell? ⟨w.heap.size, 0, none⟩ = some (.slice none 0 0)) 6 (by kernel_rfl) ⟨yco0, ycz0⟩ (fun hS0 => ?_)
      refine wpAnyX_take (i := 0) (oi := _) (v := ?_) rfl (by kernel_rfl) (by kernel_rfl) (by kernel_rfl) (by kernel_rfl) (fun _ _ _ h => h) (Or.inl ⟨by rfl, ?_⟩) hS0 ?_
      rotate_left 1
      · (intro w hSw; (try dsimp only at hSw); go_simp; (try with_reducible rfl))
      try simp only [Act.put, List.setIfInBounds_toArray, List.set_cons_zero, List.set_cons_succ]
      refine wpAnyX_take (i := 1) (oi := _) (v := ?_) rfl (by kernel_rfl) (by kernel_rfl) (by kernel_rfl) (by kernel_rfl) (fun _ _ _ h => h) (Or.inl ⟨by rfl, ?_⟩) hS0 ?_
      rotate_left 1
      · (intro w hSw; (try dsimp only at hSw); go_simp; (try with_reducible rfl))
      try simp only [Act.put, List.setIfInBounds_toArray, List.set_cons_zero, List.set_cons_succ]
      refine wpAnyX_take (i := 2) (oi := _) (v := ?_) rfl (by kernel_rfl) (by kernel_rfl) (by kernel_rfl) (by kernel_rfl) (fun _ _ _ h => h) (Or.inl ⟨by rfl, ?_⟩) hS0 ?_
      rotate_left 1
      · (intro w hSw; (try dsimp only at hSw); go_simp; (try with_reducible rfl))
      try simp only [Act.put, List.setIfInBounds_toArray, List.set_cons_zero, List.set_cons_succ]
      refine wpAnyX_take (i := 3) (oi := _) (v := ?_) rfl (by kernel_rfl) (by kernel_rfl) (by kernel_rfl) (by kernel_rfl) (fun _ _ _ h => h) (Or.inl ⟨by rfl, ?_⟩) hS0 ?_
      rotate_left 1
      · (intro w hSw; (try dsimp only at hSw); go_simp; (try with_reducible rfl))
      try simp only [Act.put, List.setIfInBounds_toArray, List.set_cons_zero, List.set_cons_succ]
      refine wpAnyX_one (i := 4) (o := _) rfl (by kernel_rfl) (fun K hK => ?_)
      go_simp
      refine (pw0 _).mono ?_
      rintro ee w8 ⟨rfl, hb8⟩
      have hb9 : Below wr.heap.size wr w8 := ⟨hb8.os, hb8.tape, hb8.output, hb8.size, hb8.block⟩
      refine hK.out _ _ (fun _ => ?_) (fun hS1 => ?_)
      · exact ⟨kc hb8 hS0.1, kc hb8 hS0.2⟩
      clear hK K
      have hS1 := hS1 (by decide)
      try simp only [Act.put, List.setIfInBounds_toArray, List.set_cons_zero, List.set_cons_succ]
      refine wpAnyX_take (i := 5) (oi := _) (v := ?_) rfl (by kernel_rfl) (by kernel_rfl) (by kernel_rfl) (by kernel_rfl) (fun _ _ _ h => h) (Or.inl ⟨by rfl, ?_⟩) hS1 ?_
      rotate_left 1
      · (intro w hSw; (try dsimp only at hSw); go_simp; (try with_reducible rfl))
      try simp only [Act.put, List.setIfInBounds_toArray, List.set_cons_zero, List.set_cons_succ]
      refine wpAnyX_one (i := 6) (o := _) rfl (by kernel_rfl) (fun K hK => ?_)
      have hG8 := hid (HG.out.mono hb9)
      have fr8 := hG8.out.fr
      obtain ⟨p0, p1, p2, p3, p4⟩ := hG8.out.cx (k := u) (tab_get hq)
      go_simp
      refine hK.out _ _ (fun h => absurd rfl h) (fun _ => ?_)
      clear hK K
      try simp only [Act.put, List.setIfInBounds_toArray, List.set_cons_zero, List.set_cons_succ]
      refine wpAnyX_done (by kernel_rfl) ?_ _
      go_wp2_with (fail)
      go_roundg m
      case measure => omega
      case rel =>
        have hz8 := hb9.size
        have R1 := Xz.out.mono hb9
        have R2 := Xo.out.mono hb9
        refine ⟨j + 1, by omega, by go_num, R1.far5 one5 (by omega), R2.far5 one5 (by omega), ?_, by (try simp only [World.size_setCell]); omega, ?_⟩
        · show Bk _ _ _ _
          have h1 := hG8.out.set (k := u) one5 (by rw [tab_len]; exact hq)
          rw [unitP_set HU.out hq] at h1
          exact h1
        · exact set5_below (x := one5) (chain hB hb9 hBq) (by omega)


end Go.Proofs.Ytofclfgaekjonaa
namespace Go.Proofs.Ytofclfgaekjonaa
open Go.RowKit RM
set_option linter.unusedVariables false
set_option linter.unusedSimpArgs false
attribute [local irreducible] World.setCell
end Go.Proofs.Ytofclfgaekjonaa
namespace Go.Proofs.Ytofclfgaekjonaa
open Go.RowKit RM
set_option linter.unusedVariables false
set_option linter.unusedSimpArgs false
attribute [local irreducible] World.setCell

end Go.Proofs.Ytofclfgaekjonaa
namespace Go.Proofs.Ytofclfgaekjonaa
open Go.RowKit RM
set_option linter.unusedVariables false
set_option linter.unusedSimpArgs false
attribute [local irreducible] World.setCell

theorem neg_i {p q r s : Int} (w : World) (h : vr p q r s = true) :
    Calls Try.prog 175 #[rg 0 0 0 0, rg p q r s] w fun ee w' => ee = .returned (rt (-p) (-q) (-r) (-s) true) ∧ Below w.heap.size w w' := by
  have := sub_i_t 0 0 0 0 p q r s w (by decide) h (by simpa using vr_neg h)
  simpa using this
set_option maxRecDepth 100000 in
set_option maxHeartbeats 4000000 in
theorem subD_i (a b c d e p q r s t r0 r1 r2 r3 r4 : Int) (ok : Bool) (w : World) (hy : vr p q r s = true) (hm : ∀ w : World, Calls Try.prog 136 #[dy a b c d e, dy (-p) (-q) (-r) (-s) t] w fun ee w' => ee = .returned (dt r0 r1 r2 r3 r4 ok) ∧ Below w.heap.size w w') :
    Calls Try.prog 135 #[dy a b c d e, dy p q r s t] w fun ee w' => ee = .returned (dt r0 r1 r2 r3 r4 ok) ∧ Below w.heap.size w w' := by
  have HY := hid hy
  clear hy
  have HM := hid hm
  clear hm
  go_enter Try.func135, Try.ntmps135
  go_wp2_with (first | (go_at_call 175; ((with_reducible refine (neg_i _ HY.out).mono ?_); rintro ee w1 ⟨rfl, hb1⟩; obtain ⟨hc1, hf1, _⟩ := bcell hb1; have hz1 := hb1.size; (try simp at hz1); (try have hx10 : w.heap.size < w1.heap.size := (by omega)); (try have hx11 : w.heap.size + 1 < w1.heap.size := (by omega)); (try have hx12 : w.heap.size + 1 + 1 < w1.heap.size := (by omega)); (try have hx13 : w.heap.size + 1 + 1 + 1 < w1.heap.size := (by omega)))) | (go_at_call 136; ((with_reducible refine (HM.out _).mono ?_); rintro ee w2 ⟨rfl, hb2⟩; obtain ⟨hc2, hf2, _⟩ := bcell hb2; have hz2 := hb2.size; (try simp at hz2); (try have hx20 : w.heap.size < w2.heap.size := (by omega)); (try have hx21 : w.heap.size + 1 < w2.heap.size := (by omega)); (try have hx22 : w.heap.size + 1 + 1 < w2.heap.size := (by omega)); (try have hx23 : w.heap.size + 1 + 1 + 1 < w2.heap.size := (by omega)))) | go_in)
  refine bodyPost_ret (v := dt r0 r1 r2 r3 r4 ok) (by first | (simp [results, Try.results135, go_sem, *]; done) | (simp (disch := (first | omega | (simp; done) | (simp; omega))) [results, Try.results135, go_sem, *]; done) | (simp only [results, Try.results135]; go_simp; done)) rfl ⟨rfl, ?_⟩
  repeat' (first | (with_reducible exact Below.refl _ _) | (with_reducible refine Below.alloc ?_ ?_ _) | (with_reducible refine Below.drew ?_) | (with_reducible refine Below.setCell ?_ ?_ _) | (with_reducible refine chain ?_ (by assumption) ?_) | omega | (simp; done) | (simp; omega))

end Go.Proofs.Ytofclfgaekjonaa
namespace Go.Proofs.Ytofclfgaekjonaa
open Go.RowKit RM
set_option linter.unusedVariables false
set_option linter.unusedSimpArgs false
attribute [local irreducible] World.setCell

theorem mulK_i {x y : D5} (hx : x.ok = true) (hy : y.ok = true) (w : World) :
    Calls Try.prog 134 #[x.v, y.v] w fun ee w' => ee = .returned (.tuple #[(mulK x y).1.v, .bool (!(mulK x y).2)]) ∧ Below w.heap.size w w' := by
  cases h : (mulS false x y).2
  · have e1 : (mulK x y).1 = (mulS false x y).1 := kp_f h
    have e2 : (mulK x y).2 = false := h
    rw [e1, e2]
    exact imul_t hx hy h w
  · have e1 : (mulK x y).1 = z5 := by show kp _ = z5; unfold kp; rw [h]; rfl
    have e2 : (mulK x y).2 = true := h
    rw [e1, e2]
    exact imul_f hx hy h w
theorem addK_i {x y : D5} (hx : x.ok = true) (hy : y.ok = true) (w : World) :
    Calls Try.prog 136 #[x.v, y.v] w fun ee w' => ee = .returned (.tuple #[(addK x y).1.v, .bool (!(addK x y).2)]) ∧ Below w.heap.size w w' := by
  cases h : (addS false x y).2
  · have e1 : (addK x y).1 = (addS false x y).1 := kp_f h
    have e2 : (addK x y).2 = false := h
    rw [e1, e2]
    exact iadd_t hx hy h w
  · have e1 : (addK x y).1 = z5 := by show kp _ = z5; unfold kp; rw [h]; rfl
    have e2 : (addK x y).2 = true := h
    rw [e1, e2]
    exact iadd_f hx hy h w
theorem subK_i {x y : D5} (hx : x.ok = true) (hy : y.ok = true) (w : World) :
    Calls Try.prog 135 #[x.v, y.v] w fun ee w' => ee = .returned (.tuple #[(subK x y).1.v, .bool (!(subK x y).2)]) ∧ Below w.heap.size w w' := by
  cases h : (addS false x (neg5 y)).2
  · have e1 : (subK x y).1 = (addS false x (neg5 y)).1 := kp_f h
    have e2 : (subK x y).2 = false := h
    rw [e1, e2]
    exact subD_i _ _ _ _ _ _ _ _ _ _ _ _ _ _ _ true w (vr_ok hy) (fun w => iadd_t (x := x) (y := neg5 y) hx (neg5_ok hy) h w)
  · have e1 : (subK x y).1 = z5 := by show kp _ = z5; unfold kp; rw [h]; rfl
    have e2 : (subK x y).2 = true := h
    rw [e1, e2]
    exact subD_i _ _ _ _ _ _ _ _ _ _ 0 0 0 0 0 false w (vr_ok hy) (fun w => iadd_f (x := x) (y := neg5 y) hx (neg5_ok hy) h w)
theorem kp_ok {r : D5 × Bool} (h : r.1.ok = true) : (kp r).ok = true := by
  unfold kp; split
  · exact z5_ok
  · exact h
theorem mulK_ok {x y : D5} (hx : x.ok = true) (hy : y.ok = true) : (mulK x y).1.ok = true := kp_ok (mulS_ok hx hy)
theorem addK_ok {x y : D5} (hx : x.ok = true) (hy : y.ok = true) : (addK x y).1.ok = true := kp_ok (addS_ok hx hy)
theorem subK_ok {x y : D5} (hx : x.ok = true) (hy : y.ok = true) : (subK x y).1.ok = true := kp_ok (addS_ok hx (neg5_ok hy))

end Go.Proofs.Ytofclfgaekjonaa
namespace Go.Proofs.Ytofclfgaekjonaa
open Go.RowKit RM
set_option linter.unusedVariables false
set_option linter.unusedSimpArgs false
attribute [local irreducible] World.setCell

set_option maxRecDepth 100000 in
set_option maxHeartbeats 4000000 in
theorem ir_i {x : D5} (h : x.ok = true) (w : World) :
    Calls Try.prog 72 #[x.v] w fun ee w' => ee = .returned (.bool (rl5 x)) ∧ Below w.heap.size w w' := by
  have hvr := vr_ok h
  obtain ⟨-, ⟨b1, b2⟩, -, -⟩ := vr_iff.1 hvr
  have hng : IntKind.i64.wrap (-x.b) = -x.b := IntWalk.i64_in _ (by omega)
  clear hvr h
  go_enter Try.func72, Try.ntmps72
  by_cases hc : x.c = 0
  · have c1 : (x.c == 0) = true := by simp [hc]
    by_cases hd : x.d = -x.b
    · have d1 : (x.d == -x.b) = true := by simp [hd]
      have HR : Hid (rl5 x = true) := by show _ = _; unfold rl5; rw [c1, d1]; rfl
      rw [HR.out]
      clear hc hd
      go_wp2_with (fail)
      go_ret
      refine ⟨rfl, ?_⟩
      (repeat' (first | (with_reducible exact Below.refl _ _) | (with_reducible assumption) | (with_reducible refine Below.alloc ?_ ?_ _) | (with_reducible refine Below.drew ?_) | (with_reducible refine below_drewN ?_ _) | (with_reducible refine Below.setCell ?_ ?_ _) | (with_reducible refine chain ?_ (by assumption) ?_) | omega | (simp; done) | (simp; omega)))
    · have d1 : (x.d == -x.b) = false := by simp [hd]
      have HR : Hid (rl5 x = false) := by show _ = _; unfold rl5; rw [c1, d1]; rfl
      rw [HR.out]
      clear hc hd
      go_wp2_with (fail)
      go_ret
      refine ⟨rfl, ?_⟩
      (repeat' (first | (with_reducible exact Below.refl _ _) | (with_reducible assumption) | (with_reducible refine Below.alloc ?_ ?_ _) | (with_reducible refine Below.drew ?_) | (with_reducible refine below_drewN ?_ _) | (with_reducible refine Below.setCell ?_ ?_ _) | (with_reducible refine chain ?_ (by assumption) ?_) | omega | (simp; done) | (simp; omega)))
  · have c1 : (x.c == 0) = false := by simp [hc]
    have HR : Hid (rl5 x = false) := by show _ = _; unfold rl5; rw [c1]; rfl
    rw [HR.out]
    clear hc
    go_wp2_with (fail)
    go_ret
    refine ⟨rfl, ?_⟩
    (repeat' (first | (with_reducible exact Below.refl _ _) | (with_reducible assumption) | (with_reducible refine Below.alloc ?_ ?_ _) | (with_reducible refine Below.drew ?_) | (with_reducible refine below_drewN ?_ _) | (with_reducible refine Below.setCell ?_ ?_ _) | (with_reducible refine chain ?_ (by assumption) ?_) | omega | (simp; done) | (simp; omega)))

set_option maxRecDepth 100000 in
set_option maxHeartbeats 4000000 in
theorem cmx_i {A : Option Addr} {n cp : Nat} (w : World) :
    Calls Try.prog 74 #[.slice A n cp] w fun ee w' => ee = .returned (mv 3 3 A n cp) ∧ Below w.heap.size w w' := by
  go_enter Try.func74, Try.ntmps74
  go_wp2_with (fail)
  refine bodyPost_ret (v := mv 3 3 A n cp) (by first | (simp [results, Try.results74, go_sem, *]; done) | (simp (disch := (first | omega | (simp; done) | (simp; omega))) [results, Try.results74, go_sem, *]; done) | (simp only [results, Try.results74]; go_simp; done)) rfl ⟨rfl, ?_⟩
  (repeat' (first | (with_reducible exact Below.refl _ _) | (with_reducible assumption) | (with_reducible refine Below.alloc ?_ ?_ _) | (with_reducible refine Below.drew ?_) | (with_reducible refine below_drewN ?_ _) | (with_reducible refine Below.setCell ?_ ?_ _) | (with_reducible refine chain ?_ (by assumption) ?_) | omega | (simp; done) | (simp; omega)))

set_option maxRecDepth 100000 in
set_option maxHeartbeats 4000000 in
theorem nr_i (w : World) :
    Calls Try.prog 77 #[] w fun ee w' => ee = .returned (.agg #[.int .i64 1, .int .i64 0, .int .i64 0, .int .i64 0, .int .i64 1, .int .i64 0, .int .i64 0, .int .i64 0, .int .i64 1]) ∧ Below w.heap.size w w' := by
  go_enter Try.func77, Try.ntmps77
  go_wp2_with (fail)
  refine bodyPost_ret (v := .agg #[.int .i64 1, .int .i64 0, .int .i64 0, .int .i64 0, .int .i64 1, .int .i64 0, .int .i64 0, .int .i64 0, .int .i64 1]) (by first | (simp [results, Try.results77, go_sem, *]; done) | (simp (disch := (first | omega | (simp; done) | (simp; omega))) [results, Try.results77, go_sem, *]; done) | (simp only [results, Try.results77]; go_simp; done)) rfl ⟨rfl, ?_⟩
  (repeat' (first | (with_reducible exact Below.refl _ _) | (with_reducible assumption) | (with_reducible refine Below.alloc ?_ ?_ _) | (with_reducible refine Below.drew ?_) | (with_reducible refine below_drewN ?_ _) | (with_reducible refine Below.setCell ?_ ?_ _) | (with_reducible refine chain ?_ (by assumption) ?_) | omega | (simp; done) | (simp; omega)))

set_option maxRecDepth 100000 in
set_option maxHeartbeats 4000000 in
theorem kp_i {x : D5} {ok z : Bool} {g : Nat} {w : World} (hc : Bx w g 164 #[.bool z]) :
    Calls Try.prog 133 #[.pointer (some ⟨g, 0, none⟩), x.v, .bool ok] w fun ee w' => ee = .returned x.v ∧ Below w.heap.size (w.setCell ⟨g, 0, none⟩ (.bool (z || !ok))) w' := by
  have hgl := hc.lt
  go_enter Try.func133, Try.ntmps133
  go_upto_region 1 with (fail)
  obtain ⟨W, hW⟩ : ∃ W : World, W = (w.alloc (.cells #[.int .i64 x.a, .int .i64 x.b, .int .i64 x.c, .int .i64 x.d, .int .i64 x.e] 99)).alloc (.cells #[.int .i64 0, .int .i64 0, .int .i64 0, .int .i64 0, .int .i64 0] 99) := ⟨_, rfl⟩
  have hBW : Below w.heap.size w W := by rw [hW]; exact ((Below.refl _ _).alloc (Nat.le_refl _) _).alloc (by simp) _
  have XX : Bx W w.heap.size 99 #[.int .i64 x.a, .int .i64 x.b, .int .i64 x.c, .int .i64 x.d, .int .i64 x.e] := by rw [hW]; exact (Bx.new rfl).alloc _
  have XR : Bx W (w.heap.size + 1) 99 #[.int .i64 z5.a, .int .i64 z5.b, .int .i64 z5.c, .int .i64 z5.d, .int .i64 z5.e] := by rw [hW]; exact Bx.new (by simp)
  have hzW : W.heap.size = w.heap.size + 1 + 1 := by rw [hW]; simp
  have XF : Bx W g 164 #[.bool z] := hc.mono hBW
  have hzW2 : w.heap.size + 1 < W.heap.size := by omega
  rw [← hW]
  clear hW hzW
  have f0 := XF.c 0 rfl
  have ff := XF.f
  have x0 := XX.c 0 rfl
  have x1 := XX.c 1 rfl
  have x2 := XX.c 2 rfl
  have x3 := XX.c 3 rfl
  have x4 := XX.c 4 rfl
  have r0 := XR.c 0 rfl
  have r1 := XR.c 1 rfl
  have r2 := XR.c 2 rfl
  have r3 := XR.c 3 rfl
  have r4 := XR.c 4 rfl
  have rf := XR.f
  have hst : Below W.heap.size (W.setCell ⟨g, 0, none⟩ (.bool (z || !ok))) (W.setCell ⟨g, 0, none⟩ (.bool (z || !ok))) := Below.refl _ _
  have hBS := stp_below hBW hst hgl
  cases z <;> cases ok
  all_goals
    simp only [Bool.or_false, Bool.or_true, Bool.not_false, Bool.not_true, Bool.true_or, Bool.false_or] at hBS ⊢
    go_wp2_with (fail)
    refine bodyPost_ret (v := x.v) (by first | (simp [results, Try.results133, go_sem, *]; done) | (simp (disch := (first | omega | (simp; done) | (simp; omega))) [results, Try.results133, go_sem, *]; done) | (simp only [results, Try.results133]; go_simp; done)) rfl ⟨rfl, ?_⟩
    exact set5_below (g := w.heap.size + 1) (o := 0) (x := x) hBS (by omega)


end Go.Proofs.Ytofclfgaekjonaa
namespace Go.Proofs.Ytofclfgaekjonaa
open Go.RowKit RM
set_option linter.unusedVariables false
set_option linter.unusedSimpArgs false
attribute [local irreducible] World.setCell

set_option maxRecDepth 100000 in
set_option maxHeartbeats 8000000 in
theorem tr_i {A : Option Addr} {cp : Nat} {xs : List D5} {w : World} (hA : Rd w A xs) (hn : xs.length = 9) :
    Calls Try.prog 75 #[.slice A 9 cp] w fun ee w' => ∃ v, ee = .returned v ∧ Own5 w' w.heap.size 99 v (tab 9 (tpF xs)) ∧ Below w.heap.size w w' := by
  obtain ⟨i0, hi0, hu0, hu1, hu2⟩ := info_parts infoD
  have HA := hid hA
  have HN := hid hn
  clear hA hn
  obtain ⟨F, hF⟩ : ∃ F, F = tpF xs := ⟨_, rfl⟩
  have HF := hid hF
  rw [← hF]
  clear hF
  go_enter Try.func75, Try.ntmps75
  go_wp2_with (fail)
  go_loopg [3, 6] 3 (fun q s3 s6 wr => ∃ (j : Nat) (v : Value), j + q = 3 ∧ s3 = v ∧ s6 = .int .i64 (j : Int) ∧ Hid (Own5 wr w.heap.size 99 v (tab (j * 3) F)) ∧ Below w.heap.size w wr)
  case atStart => exact ⟨0, .slice none 0 0, by omega, rfl, rfl, Own5.nil _ _ _, by (repeat' (first | (with_reducible exact Below.refl _ _) | (with_reducible assumption) | (with_reducible refine Below.alloc ?_ ?_ _) | (with_reducible refine Below.drew ?_) | (with_reducible refine below_drewN ?_ _) | (with_reducible refine Below.setCell ?_ ?_ _) | (with_reducible refine chain ?_ (by assumption) ?_) | omega | (simp; done) | (simp; omega)))⟩
  case round =>
    obtain ⟨j, v, hj, rfl, rfl, HO, hB⟩ := hrel
    have hBz := hB.size
    cases gk with
    | zero =>
      have j9 : ¬ ((j : Int) < 3) := by omega
      have hO9 := HO.out
      rw [show j * 3 = 9 by omega] at hO9
      have HO9 := hid hO9
      clear hO9
      go_wp2_with (fail)
      refine bodyPost_ret (v := u3) (by first | (simp only [results, Try.results75]; go_simp; done) | (simp [results, Try.results75, go_sem, *]; done)) rfl ?_
      first | exact ⟨_, rfl, HO9.out, hB⟩ | exact ⟨HO9.out, hB⟩
    | succ m9 =>
      have hltj : j < 3 := by omega
      have j1 : (j : Int) < 3 := by omega
      go_wp2_with (fail)
      go_loopg [3, 9] 3 (fun q s3 s9 wr => ∃ (i : Nat) (v : Value), i + q = 3 ∧ s3 = v ∧ s9 = .int .i64 (i : Int) ∧ Hid (Own5 wr w.heap.size 99 v (tab (j * 3 + i) F)) ∧ Below w.heap.size w wr)
      case atStart => exact ⟨0, _, by omega, rfl, rfl, HO, hB⟩
      case round =>
        clear HO hB hBz
        obtain ⟨i, v, hi, rfl, rfl, HO, hB⟩ := hrel
        have hBz := hB.size
        cases gk with
        | zero =>
          have i9 : ¬ ((i : Int) < 3) := by omega
          have hO9 := HO.out
          rw [show j * 3 + i = (j + 1) * 3 by omega] at hO9
          have HO9 := hid hO9
          clear hO9
          go_wp2_with (fail)
          go_roundg m9
          case measure => omega
          case rel => exact ⟨j + 1, _, by omega, rfl, by go_num, HO9, hB⟩
        | succ m2 =>
          obtain ⟨v, hv⟩ : ∃ v, v = u3 := ⟨_, rfl⟩
          subst hv
          have hlti : i < 3 := by omega
          have i1 : (i : Int) < 3 := by omega
          obtain ⟨t, ht⟩ : ∃ t, t = i * 3 := ⟨_, rfl⟩
          have e1 : (i : Int) * 3 = (t : Int) := by omega
          have e2 : IntKind.i64.wrap (t : Int) = (t : Int) := IntWalk.i64_in _ (by omega)
          obtain ⟨s, hs⟩ : ∃ s, s = t + j := ⟨_, rfl⟩
          have e3 : IntKind.i64.wrap ((t : Int) + (j : Int)) = (s : Int) := by rw [hs, Int.natCast_add]; exact IntWalk.i64_in _ (by omega)
          have e4 : (s : Int) < 9 := by omega
          have hq : s < 9 := by omega
          have hse : (j * 3 + i) % 3 * 3 + (j * 3 + i) / 3 = s := by omega
          have hx := get_of (xs := xs) (q := s) (by rw [HN.out]; exact hq)
          obtain ⟨x, hxe⟩ : ∃ x, x = xs.getD s z5 := ⟨_, rfl⟩
          rw [← hxe] at hx
          have HX : Hid (F (j * 3 + i) = x) := by show F (j * 3 + i) = x; rw [HF.out, hxe]; unfold tpF; rw [hse]
          clear hxe
          obtain ⟨g, o, rfl, hC⟩ := HA.out _ x hx
          obtain ⟨q0, q1, q2, q3, q4⟩ := hC.at_ (hB.block g hC.lt)
          have hgw := hC.lt
          have hcn : j * 3 + i < 9 := by omega
          clear hC hx hse hs ht
          go_wp2_with (at_builtin; refine wpList_append_lies _ rfl _ _ _ rfl (w.heap.size) 99 i0 _ 5 40 Try.underlying28 hi0 hu0 hu1 hu2 rfl (by omega) v (j * 3 + i) (csL (tab (j * 3 + i) F)) rfl (World.ownsRow.alloc (by have := HO.out; unfold Own5 at this; rw [tab_len] at this; exact this) _) ⟨wr.heap.size, 0, none⟩ 1 1 x.cs rfl rfl (World.news_of_block (cs := x.cs.toArray) (t := 99) (fr := (0, 0)) (heap_alloc_new _ _)) (by simp [D5.cs, Value.oneCell']) (by omega) (append_ok (by omega)).1 (append_ok (by omega)).2 (by simp; omega) (wr.heap.size + 1) (by simp) ?_; intro gg cap wb hownb hgrowb hatb hltb)
          go_roundg m2
          case measure => omega
          case rel =>
            have hzb := hgrowb.size
            simp only [World.size_alloc] at hzb
            have hvl := World.ownsRow.lt HO.out
            refine ⟨i + 1, _, by omega, rfl, by go_num, ?_, ?_⟩
            · show Own5 _ _ _ _ _
              rw [show j * 3 + (i + 1) = (j * 3 + i) + 1 by omega, tab_succ, HX.out]
              exact Own5.snoc (tab_len _ _) hownb
            · exact Below.grown (hB.alloc hBz _) hgrowb (by simp only [World.size_alloc]; omega) (fun q e => by have := (hvl _ e).1; omega)


end Go.Proofs.Ytofclfgaekjonaa
