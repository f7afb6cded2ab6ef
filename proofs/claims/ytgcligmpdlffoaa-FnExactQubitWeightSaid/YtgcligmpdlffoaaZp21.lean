/- Bad3, ColI, CutG, TrS, Li, Idn -/
import Derived.Test.YtgcligmpdlffoaaZp20
import Derived.Test.YtgcligmpdlffoaaZp15
import Derived.Test.YtgcligmpdlffoaaZp17
import Derived.Test.YtgcligmpdlffoaaZp9
import Derived.Deep.RegionHeld3
import Derived.Deep.DeepCutAuto
import Derived.Test.YtgcligmpdlffoaaZp7
namespace Go.Proofs.Ytgcligmpdlffoaa
open Go.RowKit RM
set_option linter.unusedVariables false
set_option linter.unusedSimpArgs false
attribute [local irreducible] World.setCell

/-- does any of the first j fail? -/
def anyB (j : Nat) (G : Nat → Bool) : Bool := (List.range j).any G
theorem anyB_0 (G : Nat → Bool) : anyB 0 G = false := rfl
theorem anyB_succ (j : Nat) (G : Nat → Bool) : anyB (j + 1) G = (anyB j G || G j) := by
  unfold anyB; rw [List.range_succ, List.any_append]; simp
theorem anyB_get {j q : Nat} {G : Nat → Bool} (h : anyB j G = false) (hq : q < j) : G q = false := by
  unfold anyB at h
  have := List.any_eq_false.1 h q (List.mem_range.2 hq)
  simpa using this
theorem anyB_of {j q : Nat} {G : Nat → Bool} (hq : q < j) (h : G q = true) : anyB j G = true := by
  cases hh : anyB j G
  · rw [anyB_get hh hq] at h; cases h
  · rfl
theorem anyB_f {j : Nat} {G : Nat → Bool} (h : ∀ q, q < j → G q = false) : anyB j G = false := by
  cases hh : anyB j G
  · rfl
  · unfold anyB at hh
    obtain ⟨q, hq, hg⟩ := List.any_eq_true.1 hh
    rw [h q (List.mem_range.1 hq)] at hg; cases hg
/-- what a model's function of matrices answers: nothing if a computation failed -/
def MR (w w' : World) (ee : Ending) (r c : Int) (n : Nat) (zs : List D5) (bad : Bool) : Prop :=
  (bad = true → ee = .returned (mt 0 0 none 0 0 false)) ∧ (bad = false → ∃ B cq, ee = .returned (mt r c B n cq true) ∧ Rd w' B zs ∧ (∀ a, B = some a → w.heap.size ≤ a.block)) ∧ Below w.heap.size w w'
/-- the state of a loop that appends what may fail: the failure so far, the numbers so far -/
def Sofar (z : Bool) (zs : List D5) (j : Nat) (F : Nat → D5) (G : Nat → Bool) : Prop := zs.length = j ∧ z = anyB j G ∧ (z = false → zs = tab j F)
theorem Sofar.start (F : Nat → D5) (G : Nat → Bool) : Sofar false [] 0 F G := ⟨rfl, rfl, fun _ => rfl⟩
theorem Sofar.next {z : Bool} {zs : List D5} {j : Nat} {F : Nat → D5} {G : Nat → Bool} {r : D5 × Bool} (h : Sofar z zs j F G) (h1 : z = false → r = (F j, G j)) (h2 : z = true → r.2 = true) : Sofar r.2 (zs ++ [r.1]) (j + 1) F G := by
  obtain ⟨hl, hz, hs⟩ := h
  refine ⟨by simp [hl], ?_, ?_⟩
  · rw [anyB_succ, ← hz]
    cases z
    · rw [h1 rfl]; rfl
    · rw [h2 rfl]; rfl
  · intro hr
    cases z
    · rw [h1 rfl, tab_succ, hs rfl]
    · rw [h2 rfl] at hr; cases hr
theorem kbad {a b : World} {g o k i : Nat} {u v : Value} (hb : Below a.heap.size (a.setCell ⟨g, o, none⟩ u) b) (hne : g ≠ k) (h : a.cell? ⟨k, i, none⟩ = some v) : b.cell? ⟨k, i, none⟩ = some v := by
  have h1 : (a.setCell ⟨g, o, none⟩ u).cell? ⟨k, i, none⟩ = some v := by rw [World.cell?_setCell_far _ _ _ _ hne, h]
  exact (hb.cell (p := ⟨k, i, none⟩) (World.block_lt_of_cell? a _ h)).trans h1
theorem Own5.badly {W W' : World} {base g o : Nat} {t : TypeId} {v u : Value} {xs : List D5} (h : Own5 W base t v xs) (hb : Below W.heap.size (W.setCell ⟨g, o, none⟩ u) W') (hg : g < base) : Own5 W' base t v xs :=
  (h.far (p := ⟨g, o, none⟩) hg u).mono (by rw [World.size_setCell]; exact hb)
theorem bad_below {W W' w : World} {g o : Nat} {u : Value} (hB : Below w.heap.size w W) (hb : Below W.heap.size (W.setCell ⟨g, o, none⟩ u) W') (hg : w.heap.size ≤ g) : Below w.heap.size w W' :=
  chain (hB.setCell (p := ⟨g, o, none⟩) hg u) hb hB.size
theorem bad_size {W W' : World} {g o : Nat} {u : Value} (hb : Below W.heap.size (W.setCell ⟨g, o, none⟩ u) W') : W.heap.size ≤ W'.heap.size := by
  have := hb.size; rwa [World.size_setCell] at this
theorem bad_drew {W W' : World} {g o : Nat} {u : Value} (hb : Below W.drew.heap.size (W.drew.setCell ⟨g, o, none⟩ u) W') : Below W.heap.size (W.setCell ⟨g, o, none⟩ u) W' := by
  rw [World.setCell_drew] at hb
  exact ⟨hb.os, hb.tape, hb.output, hb.size, hb.block⟩

set_option maxRecDepth 100000 in
set_option maxHeartbeats 2000000 in
theorem cmat_t {r c : Int} {A : Option Addr} {n cp g : Nat} {w : World} (h0 : w.cell? ⟨g, 0, none⟩ = some (.bool true)) :
    Calls Try.prog 119 #[.pointer (some ⟨g, 0, none⟩), mv r c A n cp] w fun ee w' => ee = .returned (mt 0 0 none 0 0 false) ∧ Below w.heap.size w w' := by
  have hg := World.block_lt_of_cell? w _ h0
  have hg1 : g < w.heap.size := hg
  have hg2 : g < w.heap.size + 1 := by omega
  go_enter Try.func119, Try.ntmps119
  go_wp2_with (fail)
  refine bodyPost_ret (v := mt 0 0 none 0 0 false) (by first | (simp [results, Try.results119, go_sem, *]; done) | (simp (disch := (first | omega | (simp; done) | (simp; omega))) [results, Try.results119, go_sem, *]; done) | (simp only [results, Try.results119]; go_simp; done)) rfl ⟨rfl, ?_⟩
  (repeat' (first | (with_reducible exact Below.refl _ _) | (with_reducible assumption) | (with_reducible refine Below.alloc ?_ ?_ _) | (with_reducible refine Below.drew ?_) | (with_reducible refine below_drewN ?_ _) | (with_reducible refine Below.setCell ?_ ?_ _) | (with_reducible refine chain ?_ (by assumption) ?_) | omega | (simp; done) | (simp; omega)))

set_option maxRecDepth 100000 in
set_option maxHeartbeats 2000000 in
theorem cmat_f {r c : Int} {A : Option Addr} {n cp g : Nat} {w : World} (h0 : w.cell? ⟨g, 0, none⟩ = some (.bool false)) :
    Calls Try.prog 119 #[.pointer (some ⟨g, 0, none⟩), mv r c A n cp] w fun ee w' => ee = .returned (mt r c A n cp true) ∧ Below w.heap.size w w' := by
  have hg := World.block_lt_of_cell? w _ h0
  have hg1 : g < w.heap.size := hg
  have hg2 : g < w.heap.size + 1 := by omega
  go_enter Try.func119, Try.ntmps119
  go_wp2_with (fail)
  refine bodyPost_ret (v := mt r c A n cp true) (by first | (simp [results, Try.results119, go_sem, *]; done) | (simp (disch := (first | omega | (simp; done) | (simp; omega))) [results, Try.results119, go_sem, *]; done) | (simp only [results, Try.results119]; go_simp; done)) rfl ⟨rfl, ?_⟩
  (repeat' (first | (with_reducible exact Below.refl _ _) | (with_reducible assumption) | (with_reducible refine Below.alloc ?_ ?_ _) | (with_reducible refine Below.drew ?_) | (with_reducible refine below_drewN ?_ _) | (with_reducible refine Below.setCell ?_ ?_ _) | (with_reducible refine chain ?_ (by assumption) ?_) | omega | (simp; done) | (simp; omega)))

end Go.Proofs.Ytgcligmpdlffoaa
namespace Go.Proofs.Ytgcligmpdlffoaa
open Go.RowKit RM
set_option linter.unusedVariables false
set_option linter.unusedSimpArgs false
attribute [local irreducible] World.setCell

theorem okM_nat2 {R C n : Nat} {xs : List D5} (h : okM (R : Int) (C : Int) n xs = true) : n = R * C ∧ 1 ≤ R ∧ R ≤ 32 ∧ 1 ≤ C ∧ C ≤ 32 ∧ n ≤ 1024 := by
  obtain ⟨R', C', e1, e2, hnn, h1, h2, h3, h4, h5⟩ := okM_nat h
  obtain rfl : R = R' := by omega
  obtain rfl : C = C' := by omega
  exact ⟨hnn, h1, h2, h3, h4, h5⟩
/-- a row of a matrix: where it begins, where it ends -/
theorem row_at {R C n i : Nat} (hnn : n = R * C) (hi : i < R) : ∃ s : Nat, (i : Int) * (C : Int) = (s : Int) ∧ ((i : Int) + 1) * (C : Int) = ((s + C : Nat) : Int) ∧ s + C ≤ n ∧ s = i * C := by
  refine ⟨i * C, by simp, by rw [Int.natCast_add, Int.natCast_mul, Int.add_mul, Int.one_mul], ?_, rfl⟩
  have h1 : (i + 1) * C ≤ R * C := Nat.mul_le_mul_right C hi
  rw [Nat.add_mul, Nat.one_mul, ← hnn] at h1
  exact h1
theorem Rd.cx {W : World} {g q : Nat} {xs : List D5} {x : D5} (h : Rd W (some ⟨g, 0, none⟩) xs) (hx : xs[q]? = some x) : Cx W g (q * 5) x := by
  obtain ⟨g', o, e, hc⟩ := h q x hx
  simp only [Option.some.injEq, Addr.mk.injEq, and_true] at e
  obtain ⟨rfl, rfl⟩ := e
  rw [Nat.zero_add] at hc
  exact hc

end Go.Proofs.Ytgcligmpdlffoaa
namespace Go.Proofs.Ytgcligmpdlffoaa
open Go.RowKit
theorem kst3 {a : World} {g k o : Nat} {v v0 v1 v2 : Value} (hne : g ≠ k) (h : a.cell? ⟨k, o, none⟩ = some v) : (((a.setCell ⟨g, 0, none⟩ v0).setCell ⟨g, 1, none⟩ v1).setCell ⟨g, 2, none⟩ v2).cell? ⟨k, o, none⟩ = some v := by
  rw [World.cell?_setCell_far _ _ _ _ hne, World.cell?_setCell_far _ _ _ _ hne, World.cell?_setCell_far _ _ _ _ hne, h]
/-- what the slots hold and what the world holds -/
def CutG (R : Prop) (P : Prop) : Prop := R ∧ P
end Go.Proofs.Ytgcligmpdlffoaa
namespace Go.Proofs.Ytgcligmpdlffoaa
open Go.RowKit RM
set_option linter.unusedVariables false
set_option linter.unusedSimpArgs false
attribute [local irreducible] World.setCell

def TR (w w' : World) (ee : Ending) (p : D5 × Bool) : Prop :=
  (p.2 = true → ee = .returned (dt 0 0 0 0 0 false)) ∧ (p.2 = false → ee = .returned (dt p.1.a p.1.b p.1.c p.1.d p.1.e true)) ∧ Below w.heap.size w w'
theorem TR.t {w w' : World} {p : D5 × Bool} {s : D5} (h : p = (s, false)) (hb : Below w.heap.size w w') : TR w w' (.returned (dt s.a s.b s.c s.d s.e true)) p := by
  subst h; exact ⟨fun h => (by cases h), fun _ => rfl, hb⟩
theorem TR.f {w w' : World} {p : D5 × Bool} (h : p.2 = true) (hb : Below w.heap.size w w') : TR w w' (.returned (dt 0 0 0 0 0 false)) p :=
  ⟨fun _ => rfl, fun k => (by rw [h] at k; cases k), hb⟩
theorem Bx.set5 {W : World} {b : Nat} {t : TypeId} {x : D5} (y : D5) (h : Bx W b t #[.int .i64 x.a, .int .i64 x.b, .int .i64 x.c, .int .i64 x.d, .int .i64 x.e]) : Bx (Go.Proofs.Ytgcligmpdlffoaa.set5 W b 0 y) b t #[.int .i64 y.a, .int .i64 y.b, .int .i64 y.c, .int .i64 y.d, .int .i64 y.e] :=
  ((((h.set (i := 0) (u := .int .i64 y.a) rfl).set (i := 0 + 1) (u := .int .i64 y.b) rfl).set (i := 0 + 2) (u := .int .i64 y.c) rfl).set (i := 0 + 3) (u := .int .i64 y.d) rfl).set (i := 0 + 4) (u := .int .i64 y.e) rfl
theorem Bx.far5 {W : World} {b g o : Nat} {t : TypeId} {cs : Array Value} (y : D5) (h : Bx W b t cs) (hp : b ≠ g) : Bx (Go.Proofs.Ytgcligmpdlffoaa.set5 W g o y) b t cs :=
  (set5_far hp).trans h

end Go.Proofs.Ytgcligmpdlffoaa
namespace Go.Proofs.Ytgcligmpdlffoaa
open Go.RowKit RM
set_option linter.unusedVariables false
set_option linter.unusedSimpArgs false
attribute [local irreducible] World.setCell

open GM
/-- the model's matrix of a gate -/
def gsF (n D kd A B q : Nat) : D5 := cellC (gS n kd A B (q / D) (q % D))
end Go.Proofs.Ytgcligmpdlffoaa
namespace Go.Proofs.Ytgcligmpdlffoaa
open Go.RowKit RM
set_option linter.unusedVariables false
set_option linter.unusedSimpArgs false
attribute [local irreducible] World.setCell

/-- the unit matrix, as far as its first j rows are written -/
def unitP (N j q : Nat) : D5 := if anyB j (fun i => decide (q = i * N + i)) then one5 else z5
theorem unitP_0 (N n : Nat) : tab n (unitP N 0) = List.replicate n z5 := by
  rw [tab_repl]; exact tab_congr (fun q _ => by unfold unitP; rw [anyB_0]; rfl)
theorem unitP_set {N n j q : Nat} (hq : q = j * N + j) (hn : q < n) : (tab n (unitP N j)).set q one5 = tab n (unitP N (j + 1)) := by
  rw [tab_set hn]
  refine tab_congr (fun p _ => ?_)
  unfold unitP
  rw [anyB_succ]
  by_cases e : p = q
  · subst e; rw [if_pos rfl, if_pos (by simp [hq])]
  · rw [if_neg e, show decide (p = j * N + j) = false from decide_eq_false (by omega), Bool.or_false]
theorem unit_ok {N n : Nat} (j : Nat) : allB (tab n (unitP N j)) = true := by
  unfold allB tab
  rw [List.all_eq_true]; intro x hx
  obtain ⟨q, _, rfl⟩ := List.mem_map.1 hx
  unfold unitP; split
  · exact one5_ok
  · exact z5_ok

set_option maxRecDepth 100000 in
set_option maxHeartbeats 2000000 in
theorem tn0 (w : World) : Calls Try.prog 162 #[rg 1 0 0 0, .int .i64 0] w fun ee w' => ee = .returned (rg 1 0 0 0) ∧ Below w.heap.size w w' := by
  go_enter Try.func162, Try.ntmps162
  go_wp2_with (fail)
  go_rounds 1
  refine bodyPost_ret (v := rg 1 0 0 0) (by first | (simp [results, Try.results162, go_sem, *]; done) | (simp (disch := (first | omega | (simp; done) | (simp; omega))) [results, Try.results162, go_sem, *]; done) | (simp only [results, Try.results162]; go_simp; done)) rfl ⟨rfl, ?_⟩
  (repeat' (first | (with_reducible exact Below.refl _ _) | (with_reducible assumption) | (with_reducible refine Below.alloc ?_ ?_ _) | (with_reducible refine Below.drew ?_) | (with_reducible refine below_drewN ?_ _) | (with_reducible refine Below.setCell ?_ ?_ _) | (with_reducible refine chain ?_ (by assumption) ?_) | omega | (simp; done) | (simp; omega)))

set_option maxRecDepth 100000 in
set_option maxHeartbeats 2000000 in
theorem pw0 (w : World) : Calls Try.prog 161 #[.int .i64 0] w fun ee w' => ee = .returned (dy 1 0 0 0 0) ∧ Below w.heap.size w w' := by
  go_enter Try.func161, Try.ntmps161
  go_wp2_with (fail)
  refine (tn0 _).mono ?_
  rintro ee w1 ⟨rfl, hb1⟩
  obtain ⟨hc1, hf1, _⟩ := bcell hb1; have hz1 := hb1.size; (try simp at hz1); (try have hx10 : w.heap.size < w1.heap.size := (by omega)); (try have hx11 : w.heap.size + 1 < w1.heap.size := (by omega)); (try have hx12 : w.heap.size + 1 + 1 < w1.heap.size := (by omega)); (try have hx13 : w.heap.size + 1 + 1 + 1 < w1.heap.size := (by omega))
  go_wp2_with (fail)
  refine bodyPost_ret (v := dy 1 0 0 0 0) (by first | (simp [results, Try.results161, go_sem, *]; done) | (simp (disch := (first | omega | (simp; done) | (simp; omega))) [results, Try.results161, go_sem, *]; done) | (simp only [results, Try.results161]; go_simp; done)) rfl ⟨rfl, ?_⟩
  (repeat' (first | (with_reducible exact Below.refl _ _) | (with_reducible assumption) | (with_reducible refine Below.alloc ?_ ?_ _) | (with_reducible refine Below.drew ?_) | (with_reducible refine below_drewN ?_ _) | (with_reducible refine Below.setCell ?_ ?_ _) | (with_reducible refine chain ?_ (by assumption) ?_) | omega | (simp; done) | (simp; omega)))

set_option maxRecDepth 100000 in
set_option maxHeartbeats 4000000 in
theorem unit_s {N n : Nat} {w : World} (hn : n = N * N) (h1 : 1 ≤ N) (h2 : N ≤ 32) (h5 : n ≤ 1024) :
    Calls Try.prog 121 #[.int .i64 (N : Int)] w fun ee w' => ee = .returned (mv (N : Int) (N : Int) (some ⟨w.heap.size + 1, 0, none⟩) n n) ∧ Bk w' (w.heap.size + 1) 37 (tab n (unitP N N)) ∧ Below w.heap.size w w' := by
  have hmk := mkD n (by omega)
  have e1 : (N : Int) * (N : Int) = (n : Int) := by rw [hn]; simp
  have e2 : IntKind.i64.wrap (n : Int) = (n : Int) := IntWalk.i64_in _ (by omega)
  have HNN := hid hn
  clear hn
  go_enter Try.func121, Try.ntmps121
  go_wp2_with (fail)
  go_loopg [4] N (fun q s1 wr => ∃ j : Nat, j + q = N ∧ s1 = .int .i64 (j : Int) ∧ Hid (Bx wr (w.heap.size) 55 #[.int .i64 0, .int .i64 0, .slice none 0 0]) ∧ Hid (Bx wr (w.heap.size + 1 + 1) 55 #[.int .i64 (N : Int), .int .i64 (N : Int), .slice (some ⟨w.heap.size + 1, 0, none⟩) n n]) ∧ Hid (Bk wr (w.heap.size + 1) 37 (tab n (unitP N j))) ∧ w.heap.size + 1 + 1 + 1 ≤ wr.heap.size ∧ Below w.heap.size w wr)
  case atStart =>
    refine ⟨0, by omega, rfl, (by show Bx _ _ _ _; (repeat' (first | (with_reducible assumption) | (refine Bx.new (by first | (with_reducible rfl) | (simp; done))) | (with_reducible refine Bx.alloc ?_ _) | (with_reducible refine Bx.drew ?_) | (with_reducible refine Bx.drewN ?_ _) | (with_reducible refine Bx.mono ?_ (by assumption)) | (with_reducible refine Bx.badly ?_ (by assumption) (by omega)) | (with_reducible refine Bx.far ?_ (by (try simp only [World.size_alloc, World.size_drew]); omega)) | (with_reducible refine Bx.set ?_ rfl) | (with_reducible refine Bx.grown ?_ (by assumption) (by assumption))))), (by show Bx _ _ _ _; (repeat' (first | (with_reducible assumption) | (refine Bx.new (by first | (with_reducible rfl) | (simp; done))) | (with_reducible refine Bx.alloc ?_ _) | (with_reducible refine Bx.drew ?_) | (with_reducible refine Bx.drewN ?_ _) | (with_reducible refine Bx.mono ?_ (by assumption)) | (with_reducible refine Bx.badly ?_ (by assumption) (by omega)) | (with_reducible refine Bx.far ?_ (by (try simp only [World.size_alloc, World.size_drew]); omega)) | (with_reducible refine Bx.set ?_ rfl) | (with_reducible refine Bx.grown ?_ (by assumption) (by assumption))))), ?_, by simp, by (repeat' (first | (with_reducible exact Below.refl _ _) | (with_reducible assumption) | (with_reducible refine Below.alloc ?_ ?_ _) | (with_reducible refine Below.drew ?_) | (with_reducible refine below_drewN ?_ _) | (with_reducible refine Below.setCell ?_ ?_ _) | (with_reducible refine chain ?_ (by assumption) ?_) | omega | (simp; done) | (simp; omega)))⟩
    show Bk _ _ _ _
    rw [unitP_0]
    (repeat' (first | exact Bk.made' (by simp) | refine Bk.alloc ?_ _ | refine Bk.far ?_ (by simp) _))
  case round =>
    obtain ⟨j, hj, rfl, Xz, Xo, HG, hsz, hB⟩ := hrel
    have cz0 := Xz.out.c 0 rfl
    have cz1 := Xz.out.c 1 rfl
    have cz2 := Xz.out.c 2 rfl
    have lz := Xz.out.lt
    have fz := Xz.out.f
    have co0 := Xo.out.c 0 rfl
    have co1 := Xo.out.c 1 rfl
    have co2 := Xo.out.c 2 rfl
    have lo := Xo.out.lt
    have fo := Xo.out.f
    cases gk with
    | zero =>
      obtain rfl : j = N := by omega
      have hBq := hB.size
      go_wp2_with (fail)
      refine bodyPost_ret (v := mv (j : Int) (j : Int) (some ⟨w.heap.size + 1, 0, none⟩) n n) (by first | (simp [results, Try.results121, go_sem, *]; done) | (simp (disch := (first | omega | (simp; done) | (simp; omega))) [results, Try.results121, go_sem, *]; done) | (simp only [results, Try.results121]; go_simp; done)) rfl ⟨rfl, ?_, ?_⟩
      · (repeat' (first | exact HG.out | refine Bk.far ?_ (by show w.heap.size + 1 ≠ w.heap.size; omega) _))
      · (repeat' (first | (with_reducible exact Below.refl _ _) | (with_reducible assumption) | (with_reducible refine Below.alloc ?_ ?_ _) | (with_reducible refine Below.drew ?_) | (with_reducible refine below_drewN ?_ _) | (with_reducible refine Below.setCell ?_ ?_ _) | (with_reducible refine chain ?_ (by assumption) ?_) | omega | (simp; done) | (simp; omega)))
    | succ m =>
      have hlt : j < N := by omega
      have j1 : (j : Int) < (N : Int) := by omega
      obtain ⟨t, ht1, ht2, ht3, ht4⟩ := row_at HNN.out hlt
      obtain ⟨u, hu⟩ : ∃ u, u = t + j := ⟨_, rfl⟩
      have hq : u < n := by omega
      have HU : Hid (u = j * N + j) := by show u = _; rw [hu, ht4]
      have q2 : IntKind.i64.wrap (t : Int) = (t : Int) := IntWalk.i64_in _ (by omega)
      have q3 : IntKind.i64.wrap ((t : Int) + (j : Int)) = (u : Int) := by rw [hu, Int.natCast_add]; exact IntWalk.i64_in _ (by omega)
      have q4 : (u : Int) < (n : Int) := by omega
      have hBq := hB.size
      clear hu ht2 ht4
      go_wp2_with (fail)
      have yco1 : wr.drew.cell? ⟨w.heap.size + 1 + 1, 1, none⟩ = some (.int .i64 (N : Int)) := co1
      have yco2 : wr.drew.cell? ⟨w.heap.size + 1 + 1, 2, none⟩ = some (.slice (some ⟨w.heap.size + 1, 0, none⟩) n n) := co2
      refine wp_region_x (fun w' => w'.cell? ⟨w.heap.size + 1 + 1, 1, none⟩ = some (.int .i64 (N : Int)) ∧ w'.cell? ⟨w.heap.size + 1 + 1, 2, none⟩ = some (.slice (some ⟨w.heap.size + 1, 0, none⟩) n n)) 9 (by kernel_rfl) ⟨yco1, yco2⟩ (fun hS0 => ?_)
      refine wpAnyX_take (i := 0) (oi := _) (v := ?_) rfl (by kernel_rfl) (by kernel_rfl) (by kernel_rfl) (by kernel_rfl) (fun _ _ _ h => h) (Or.inl ⟨by rfl, ?_⟩) hS0 ?_
      rotate_left 1
      · (intro w hSw; (try dsimp only at hSw); go_simp; (try with_reducible rfl))
      try simp only [Act.put, List.setIfInBounds_toArray, List.set_cons_zero, List.set_cons_succ]
      refine wpAnyX_take (i := 1) (oi := _) (v := ?_) rfl (by kernel_rfl) (by kernel_rfl) (by kernel_rfl) (by kernel_rfl) (fun _ _ _ h => h) (Or.inl ⟨by rfl, ?_⟩) hS0 ?_
      rotate_left 1
      · (intro w hSw; (try dsimp only at hSw); go_simp; (try with_reducible rfl))
      try simp only [Act.put, List.setIfInBounds_toArray, List.set_cons_zero, List.set_cons_succ]
      refine wpAnyX_take (i := 2) (oi := _) (v := ?_) rfl (by kernel_rfl) (by kernel_rfl) (by kernel_rfl) (by kernel_rfl) (fun _ _ _ h => h) (Or.inl ⟨by rfl, ?_⟩) hS0 ?_
      rotate_left 1
      · (intro w hSw; (try dsimp only at hSw); go_simp; (try with_reducible rfl))
      try simp only [Act.put, List.setIfInBounds_toArray, List.set_cons_zero, List.set_cons_succ]
      refine wpAnyX_take (i := 3) (oi := _) (v := ?_) rfl (by kernel_rfl) (by kernel_rfl) (by kernel_rfl) (by kernel_rfl) (fun _ _ _ h => h) (Or.inl ⟨by rfl, ?_⟩) hS0 ?_
      rotate_left 1
      · (intro w hSw; (try dsimp only at hSw); go_simp; (try with_reducible rfl))
      try simp only [Act.put, List.setIfInBounds_toArray, List.set_cons_zero, List.set_cons_succ]
      refine wpAnyX_take (i := 4) (oi := _) (v := ?_) rfl (by kernel_rfl) (by kernel_rfl) (by kernel_rfl) (by kernel_rfl) (fun _ _ _ h => h) (Or.inl ⟨by rfl, ?_⟩) hS0 ?_
      rotate_left 1
      · (intro w hSw; (try dsimp only at hSw); go_simp; (try with_reducible rfl))
      try simp only [Act.put, List.setIfInBounds_toArray, List.set_cons_zero, List.set_cons_succ]
      refine wpAnyX_take (i := 5) (oi := _) (v := ?_) rfl (by kernel_rfl) (by kernel_rfl) (by kernel_rfl) (by kernel_rfl) (fun _ _ _ h => h) (Or.inl ⟨by rfl, ?_⟩) hS0 ?_
      rotate_left 1
      · (intro w hSw; (try dsimp only at hSw); go_simp; (try with_reducible rfl))
      try simp only [Act.put, List.setIfInBounds_toArray, List.set_cons_zero, List.set_cons_succ]
      refine wpAnyX_take (i := 6) (oi := _) (v := ?_) rfl (by kernel_rfl) (by kernel_rfl) (by kernel_rfl) (by kernel_rfl) (fun _ _ _ h => h) (Or.inl ⟨by rfl, ?_⟩) hS0 ?_
      rotate_left 1
      · (intro w hSw; (try dsimp only at hSw); go_simp; (try with_reducible rfl))
      try simp only [Act.put, List.setIfInBounds_toArray, List.set_cons_zero, List.set_cons_succ]
      refine wpAnyX_one (i := 7) (o := _) rfl (by kernel_rfl) (fun K hK => ?_)
      go_simp
      refine (pw0 _).mono ?_
      rintro ee w8 ⟨rfl, hb8⟩
      have hb9 : Below wr.heap.size wr w8 := ⟨hb8.os, hb8.tape, hb8.output, hb8.size, hb8.block⟩
      refine hK.out _ _ (fun _ => ?_) (fun hS1 => ?_)
      · exact ⟨kc hb8 (hS0.1), kc hb8 (hS0.2)⟩
      clear hK K
      have hS1 := hS1 (by decide)
      try simp only [Act.put, List.setIfInBounds_toArray, List.set_cons_zero, List.set_cons_succ]
      refine wpAnyX_take (i := 8) (oi := _) (v := ?_) rfl (by kernel_rfl) (by kernel_rfl) (by kernel_rfl) (by kernel_rfl) (fun _ _ _ h => h) (Or.inl ⟨by rfl, ?_⟩) hS1 ?_
      rotate_left 1
      · (intro w hSw; (try dsimp only at hSw); go_simp; (try with_reducible rfl))
      try simp only [Act.put, List.setIfInBounds_toArray, List.set_cons_zero, List.set_cons_succ]
      refine wpAnyX_one (i := 9) (o := _) rfl (by kernel_rfl) (fun K hK => ?_)
      have hG8 := hid (HG.out.mono hb9)
      have fr8 := hG8.out.fr
      obtain ⟨p0, p1, p2, p3, p4⟩ := hG8.out.cx (k := u) (tab_get hq)
      go_simp
      refine hK.out _ _ (fun h => absurd rfl h) (fun _ => ?_)
      clear hK K
      try simp only [Act.put, List.setIfInBounds_toArray, List.set_cons_zero, List.set_cons_succ]
      refine wpAnyX_done (by kernel_rfl) ?_ _
      go_wp2_with (fail)
      go_roundg m
      case measure => omega
      case rel =>
        have hz8 := hb9.size
        have R1 := Xz.out.mono hb9
        have R2 := Xo.out.mono hb9
        refine ⟨j + 1, by omega, by go_num, R1.far5 one5 (by omega), R2.far5 one5 (by omega), ?_, by (try simp only [World.size_setCell]); omega, ?_⟩
        · show Bk _ _ _ _
          have h1 := hG8.out.set (k := u) one5 (by rw [tab_len]; exact hq)
          rw [unitP_set HU.out hq] at h1
          exact h1
        · exact set5_below (x := one5) (chain hB hb9 hBq) (by omega)

set_option maxRecDepth 100000 in
set_option maxHeartbeats 4000000 in
theorem id_i_t {N n : Nat} {w : World} (hd : dimB (N : Int) = true) (hn : n = N * N) (h1 : 1 ≤ N) (h2 : N ≤ 32) (h5 : n ≤ 1024) : Calls Try.prog 124 #[.int .i64 (N : Int)] w fun ee w' => ∃ g : Nat, ee = .returned (mt (N : Int) (N : Int) (some ⟨g, 0, none⟩) n n true) ∧ Bk w' g 37 (tab n (unitP N N)) ∧ w.heap.size ≤ g ∧ Below w.heap.size w w' := by
  have HD := hid hd
  have HNN := hid hn
  clear hd hn
  go_enter Try.func124, Try.ntmps124
  go_wp2_with (fail)
  refine (dm_i_t HD.out _).mono ?_
  rintro ee w1 ⟨rfl, hb1⟩
  obtain ⟨hc1, hf1, _⟩ := bcell hb1; have hz1 := hb1.size; (try simp at hz1); (try have hx10 : w.heap.size < w1.heap.size := (by omega)); (try have hx11 : w.heap.size + 1 < w1.heap.size := (by omega)); (try have hx12 : w.heap.size + 1 + 1 < w1.heap.size := (by omega)); (try have hx13 : w.heap.size + 1 + 1 + 1 < w1.heap.size := (by omega))
  have Xz1 : Hid (Bx w1 (w.heap.size) 55 #[.int .i64 0, .int .i64 0, .slice none 0 0]) := by show Bx _ _ _ _; (repeat' (first | (with_reducible assumption) | (refine Bx.new (by first | (with_reducible rfl) | (simp; done))) | (with_reducible refine Bx.alloc ?_ _) | (with_reducible refine Bx.drew ?_) | (with_reducible refine Bx.drewN ?_ _) | (with_reducible refine Bx.mono ?_ (by assumption)) | (with_reducible refine Bx.badly ?_ (by assumption) (by omega)) | (with_reducible refine Bx.far ?_ (by (try simp only [World.size_alloc, World.size_drew]); omega)) | (with_reducible refine Bx.set ?_ rfl) | (with_reducible refine Bx.grown ?_ (by assumption) (by assumption))))
  have hw1 : Below w.heap.size w w1 := by (repeat' (first | (with_reducible exact Below.refl _ _) | (with_reducible assumption) | (with_reducible refine Below.alloc ?_ ?_ _) | (with_reducible refine Below.drew ?_) | (with_reducible refine below_drewN ?_ _) | (with_reducible refine Below.setCell ?_ ?_ _) | (with_reducible refine chain ?_ (by assumption) ?_) | omega | (simp; done) | (simp; omega)))
  go_wp2_with (fail)
  refine (zm (r := N) (c := N) (n := n) (by rw [HNN.out]; simp) h5).mono ?_
  rintro ee w2 ⟨gz, rfl, hBz, hgz, hb2⟩
  have hz2 := hb2.size
  have hw2 : Below w.heap.size w w2 := chain hw1 hb2 (by omega)
  have Xz2 := hid (Xz1.out.mono hb2)
  have lz := hBz.lt
  have HBz := hid hBz
  clear hBz
  go_wp2_with (fail)
  go_loopg [14] N (fun q s1 wr => ∃ j : Nat, j + q = N ∧ s1 = .int .i64 (j : Int) ∧ Hid (Bx wr (w.heap.size) 55 #[.int .i64 0, .int .i64 0, .slice none 0 0]) ∧ Hid (Bx wr (w2.heap.size) 55 #[.int .i64 (N : Int), .int .i64 (N : Int), .slice (some ⟨gz, 0, none⟩) n n]) ∧ Hid (Bk wr gz 37 (tab n (unitP N j))) ∧ w2.heap.size + 1 ≤ wr.heap.size ∧ Below w.heap.size w wr)
  case atStart =>
    have R1 := Xz2.out
    refine ⟨0, by omega, rfl, (by show Bx _ _ _ _; (repeat' (first | (with_reducible assumption) | (with_reducible refine Bx.alloc ?_ _) | (with_reducible refine Bx.drew ?_) | (with_reducible refine Bx.drewN ?_ _) | (with_reducible refine Bx.mono ?_ (by assumption)) | (with_reducible refine Bx.badly ?_ (by assumption) (by omega)) | (with_reducible refine Bx.far ?_ (by (try simp only [World.size_alloc, World.size_drew]); omega)) | (with_reducible refine Bx.set ?_ rfl) | (with_reducible refine Bx.grown ?_ (by assumption) (by assumption))))), (by show Bx _ _ _ _; (repeat' (first | (with_reducible assumption) | (refine Bx.new (by first | (with_reducible rfl) | (simp; done))) | (with_reducible refine Bx.alloc ?_ _) | (with_reducible refine Bx.drew ?_) | (with_reducible refine Bx.drewN ?_ _) | (with_reducible refine Bx.mono ?_ (by assumption)) | (with_reducible refine Bx.badly ?_ (by assumption) (by omega)) | (with_reducible refine Bx.far ?_ (by (try simp only [World.size_alloc, World.size_drew]); omega)) | (with_reducible refine Bx.set ?_ rfl) | (with_reducible refine Bx.grown ?_ (by assumption) (by assumption))))), ?_, by simp, by (repeat' (first | (with_reducible exact Below.refl _ _) | (with_reducible assumption) | (with_reducible refine Below.alloc ?_ ?_ _) | (with_reducible refine Below.drew ?_) | (with_reducible refine below_drewN ?_ _) | (with_reducible refine Below.setCell ?_ ?_ _) | (with_reducible refine chain ?_ (by assumption) ?_) | omega | (simp; done) | (simp; omega)))⟩
    show Bk _ _ _ _
    rw [unitP_0]
    exact HBz.out.alloc _
  case round =>
    obtain ⟨j, hj, rfl, Xz, Xo, HG, hsz, hB⟩ := hrel
    clear Xz1 Xz2 HBz
    have cz0 := Xz.out.c 0 rfl
    have cz1 := Xz.out.c 1 rfl
    have cz2 := Xz.out.c 2 rfl
    have lz := Xz.out.lt
    have fz := Xz.out.f
    have co0 := Xo.out.c 0 rfl
    have co1 := Xo.out.c 1 rfl
    have co2 := Xo.out.c 2 rfl
    have lo := Xo.out.lt
    have fo := Xo.out.f
    cases gk with
    | zero =>
      obtain rfl : j = N := by omega
      have hBq := hB.size
      go_wp2_with (fail)
      refine bodyPost_ret (v := mt (j : Int) (j : Int) (some ⟨gz, 0, none⟩) n n true) (by first | (simp [results, Try.results124, go_sem, *]; done) | (simp (disch := (first | omega | (simp; done) | (simp; omega))) [results, Try.results124, go_sem, *]; done) | (simp only [results, Try.results124]; go_simp; done)) rfl ⟨gz, rfl, ?_, by omega, ?_⟩
      · (repeat' (first | exact HG.out | refine Bk.far ?_ (by show gz ≠ w.heap.size; omega) _))
      · (repeat' (first | (with_reducible exact Below.refl _ _) | (with_reducible assumption) | (with_reducible refine Below.alloc ?_ ?_ _) | (with_reducible refine Below.drew ?_) | (with_reducible refine below_drewN ?_ _) | (with_reducible refine Below.setCell ?_ ?_ _) | (with_reducible refine chain ?_ (by assumption) ?_) | omega | (simp; done) | (simp; omega)))
    | succ m =>
      have hlt : j < N := by omega
      have j1 : (j : Int) < (N : Int) := by omega
      obtain ⟨t, ht1, ht2, ht3, ht4⟩ := row_at HNN.out hlt
      have HT1 := hid ht1
      have HT2 := hid ht2
      have HT4 := hid ht4
      have hq : t + j < n := by omega
      have hBq := hB.size
      clear ht1 ht2 ht4
      go_wp2_with (fail)
      refine (rw_i (s := t) HT1.out HT2.out (by omega) (by omega) h1 (by omega)).mono ?_
      rintro ee w8 ⟨rfl, hb8⟩
      have hz8 := hb8.size
      have hG8 := hid (HG.out.mono hb8)
      have fr8 := hG8.out.fr
      obtain ⟨p0, p1, p2, p3, p4⟩ := hG8.out.cx (k := t + j) (tab_get hq)
      simp only [Nat.add_mul] at p0 p1 p2 p3 p4
      go_wp2_with (fail)
      go_roundg m
      case measure => omega
      case rel =>
        have R1 := Xz.out.mono hb8
        have R2 := Xo.out.mono hb8
        refine ⟨j + 1, by omega, by go_num, R1.far5 one5 (by omega), R2.far5 one5 (by omega), ?_, by (try simp only [World.size_setCell]); omega, ?_⟩
        · show Bk _ _ _ _
          have h1 := hG8.out.set (k := t + j) one5 (by rw [tab_len]; exact hq)
          rw [unitP_set (by rw [HT4.out]) hq, Nat.add_mul] at h1
          exact h1
        · exact set5_below (x := one5) (chain hB hb8 hBq) (by omega)

end Go.Proofs.Ytgcligmpdlffoaa
