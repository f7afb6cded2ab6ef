/- Bx, Rgx, Kt, Lc -/
import Derived.Test.YtnjckeadcbfogaaZp14
import Derived.OrdersHeld
import Derived.Deep.RegionHeld3
import Derived.Test.YtnjckeadcbfogaaZp6
import Derived.Test.YtnjckeadcbfogaaZp8
import Derived.Test.YtnjckeadcbfogaaZp0
import Derived.Deep.Cut
namespace Go.Proofs.Ytnjckeadcbfogaa
open Go.RowKit RM
set_option linter.unusedVariables false
set_option linter.unusedSimpArgs false
/-- block b is just these cells -/
def Bx (W : World) (b : Nat) (t : TypeId) (cs : Array Value) : Prop := W.heap[b]? = some (.cells cs t (0, 0))
theorem Bx.lt {W : World} {b : Nat} {t : TypeId} {cs : Array Value} (h : Bx W b t cs) : b < W.heap.size := (Array.getElem?_eq_some_iff.1 h).1
theorem Bx.c {W : World} {b : Nat} {t : TypeId} {cs : Array Value} (h : Bx W b t cs) (i : Nat) {v : Value} (hv : cs[i]? = some v) : W.cell? ⟨b, i, none⟩ = some v := (cell_of_row W b i cs t (0, 0) h).trans hv
theorem Bx.f {W : World} {b : Nat} {t : TypeId} {cs : Array Value} (h : Bx W b t cs) (i : Nat) : W.frozen? ⟨b, i, none⟩ = false := frozen_of_row W b i cs t h
theorem Bx.new {W : World} {b : Nat} {t : TypeId} {cs : Array Value} (hb : b = W.heap.size) : Bx (W.alloc (.cells cs t)) b t cs := by subst hb; exact heap_alloc_new W _
theorem Bx.alloc {W : World} {b : Nat} {t : TypeId} {cs : Array Value} (h : Bx W b t cs) (o : Obj) : Bx (W.alloc o) b t cs := (Below.heap_alloc W o b h.lt).trans h
theorem Bx.drew {W : World} {b : Nat} {t : TypeId} {cs : Array Value} (h : Bx W b t cs) : Bx W.drew b t cs := h
theorem Bx.drewN {W : World} {b : Nat} {t : TypeId} {cs : Array Value} (h : Bx W b t cs) (n : Nat) : Bx (W.drewN n) b t cs := h
theorem Bx.far {W : World} {b : Nat} {t : TypeId} {cs : Array Value} (h : Bx W b t cs) {g o : Nat} {u : Value} (hp : b ≠ g) : Bx (W.setCell ⟨g, o, none⟩ u) b t cs := (Below.heap_setCell W _ u b hp).trans h
theorem Bx.set {W : World} {b : Nat} {t : TypeId} {cs cs' : Array Value} {i : Nat} {u : Value} (h : Bx W b t cs) (hc : cs' = cs.setIfInBounds i u) : Bx (W.setCell ⟨b, i, none⟩ u) b t cs' := by
  rw [hc]; exact heap_setCell_same W b i cs t u h
theorem Bx.mono {W W' : World} {b : Nat} {t : TypeId} {cs : Array Value} (h : Bx W b t cs) (hb : Below W.heap.size W W') : Bx W' b t cs := (hb.block b h.lt).trans h
theorem Bx.below {W W' : World} {B b : Nat} {t : TypeId} {cs : Array Value} (h : Bx W b t cs) (hb : Below B W W') (hB : b < B) : Bx W' b t cs := (hb.block b hB).trans h
theorem Bx.grown {W W' : World} {b : Nat} {t : TypeId} {cs : Array Value} {row : Option Nat} (h : Bx W b t cs) (hg : W.grownBy W' row) (hne : some b ≠ row) : Bx W' b t cs := (hg.block b h.lt hne).trans h
/-- behind a call that may set the model's failure -/
theorem Bx.badly {W W' : World} {b g o : Nat} {u : Value} {t : TypeId} {cs : Array Value} (h : Bx W b t cs) (hb : Below W.heap.size (W.setCell ⟨g, o, none⟩ u) W') (hne : b ≠ g) : Bx W' b t cs := (hb.block b h.lt).trans (h.far hne)
theorem Bx.bad {W W' : World} {g : Nat} {u v : Value} {t : TypeId} (h : Bx W g t #[v]) (hb : Below W.heap.size (W.setCell ⟨g, 0, none⟩ u) W') : Bx W' g t #[u] := (hb.block g h.lt).trans (h.set (cs' := #[u]) rfl)
end Go.Proofs.Ytnjckeadcbfogaa
namespace Go
section
variable {P : Program} {ops : Array Oper} {Q : Exit → Act → World → Prop} {md : Region.Mode} {S : World → Prop} {L : Nat}

/-- Whatever order is picked, and S holds behind every operation but number L. -/
def wpAnyX (P : Program) (md : Region.Mode) (ops : Array Oper) (Q : Exit → Act → World → Prop) (S : World → Prop) (L : Nat) : Nat → Array Bool → Act → World → Prop
  | 0, listed, a, w => Region.ready md ops listed = [] ∧ Q .normal a w
  | fuel + 1, listed, a, w =>
    (Region.ready md ops listed = [] → Q .normal a w) ∧
    ∀ i ∈ Region.ready md ops listed, wpOp P ops Q i (fun a' w' => (i ≠ L → S w') ∧ wpAnyX P md ops Q S L fuel (listed.setIfInBounds i true) a' w') a w

theorem wpAny_of_x : ∀ (fuel : Nat) (listed : Array Bool) (a : Act) (w : World), wpAnyX P md ops Q S L fuel listed a w → wpAny P md ops Q fuel listed a w
  | 0, _, _, _, h => h
  | fuel + 1, _, _, _, h => ⟨h.1, fun i hi => wpOp_mono (fun a' w' h' => wpAny_of_x fuel _ a' w' h'.2) (h.2 i hi)⟩

theorem wpAnyX_first {i : Nat} {oi : Oper} {v : Value} (hi : ops[i]? = some oi) (hsel : ∀ (j : Nat) (o : Oper) cs b, ops[j]? = some o → o.op ≠ .select cs b)
    (hQ : ∀ c a w, Q (.panic c) (a.put oi.dst v) w → Q (.panic c) a w)
    (hL : ∀ o, ops[L]? = some o → ∃ e ∈ o.after, Region.binds md e = true ∧ e.on = i) :
    ∀ (fuel : Nat) (listed : Array Bool) (a : Act) (w : World),
      (∀ j oj, ops[j]? = some oj → j ≠ i → listed.getD j true = false → (∀ e ∈ oj.after, Region.binds md e = true → e.on ≠ i) → oi.apart ops oj = true) →
      i ∈ Region.ready md ops listed → YieldsIf P ops S oi v a → S w →
      wpAnyX P md ops Q S L fuel (listed.setIfInBounds i true) (a.put oi.dst v) w → wpAnyX P md ops Q S L (fuel + 1) listed a w := by
  intro fuel
  induction fuel with
  | zero =>
    intro listed a w _ hr hy hS H
    refine ⟨fun h => (by rw [h] at hr; cases hr), fun j hj => ?_⟩
    by_cases hji : j = i
    · subst hji; exact hy.wpOp hi hS ⟨fun _ => hS, H⟩
    · have := ready_mono hj hji
      rw [H.1] at this
      cases this
  | succ fuel ih =>
    intro listed a w hfree hr hy hS H
    refine ⟨fun h => (by rw [h] at hr; cases hr), fun j hj => ?_⟩
    by_cases hji : j = i
    · subst hji; exact hy.wpOp hi hS ⟨fun _ => hS, H⟩
    · have h1 := H.2 j (ready_mono hj hji)
      obtain ⟨hjun, oj, hoj, hall⟩ := mem_ready.1 hj
      have hnot : ∀ e ∈ oj.after, Region.binds md e = true → e.on ≠ i := fun e he hb heq => by
        have h1 := hall e he hb
        have h0 := (mem_ready.1 hr).1
        rw [heq] at h1
        rcases Nat.lt_or_ge i listed.size with h' | h'
        · simp [h'] at h0 h1; rw [h0] at h1; cases h1
        · simp [Array.getElem?_eq_none h'] at h1
      have hjL : j ≠ L := fun e => by
        subst e
        obtain ⟨e, he, hb, ho⟩ := hL oj hoj
        exact hnot e he hb ho
      have h2 := wpOp_putIf hoj (hfree j oj hoj hji hjun hnot) (fun cs b => hsel i oi cs b hi) (fun cs b => hsel j oj cs b hoj) hQ hy h1
      have hfree' : ∀ k ok, ops[k]? = some ok → k ≠ i → (listed.setIfInBounds j true).getD k true = false →
          (∀ e ∈ ok.after, Region.binds md e = true → e.on ≠ i) → oi.apart ops ok = true := fun k ok hk hki hun hno => by
        refine hfree k ok hk hki ?_ hno
        by_cases hjk : j = k
        · subst hjk; exact hjun
        · rw [getD_set_ne true hjk] at hun; exact hun
      refine wpOp_mono (fun a' w' h3 => ⟨fun _ => h3.2.1 hjL, ih (listed.setIfInBounds j true) a' w' hfree' (ready_mono hr (Ne.symm hji)) h3.1 (h3.2.1 hjL) ?_⟩) h2
      rw [Array.setIfInBounds_comm _ _ hji]
      exact h3.2.2

/-- does operation L wait for number i? -/
def waitsOn (md : Region.Mode) (ops : Array Oper) (L i : Nat) : Bool :=
  match ops[L]? with
  | some o => o.after.toList.any fun e => Region.binds md e && e.on == i
  | none => true
theorem waitsOn_spec {i : Nat} (h : waitsOn md ops L i = true) : ∀ o, ops[L]? = some o → ∃ e ∈ o.after, Region.binds md e = true ∧ e.on = i := by
  intro o ho
  unfold waitsOn at h
  rw [ho] at h
  obtain ⟨e, he, hb⟩ := List.any_eq_true.1 h
  simp only [Bool.and_eq_true, beq_iff_eq] at hb
  exact ⟨e, by simpa using he, hb.1, hb.2⟩

theorem wpAnyX_take {i : Nat} {oi : Oper} {v : Value} {fuel : Nat} {listed : Array Bool} {a : Act} {w : World} (hi : ops[i]? = some oi)
    (hs : Region.noSelect ops = true) (hf : Region.free md ops listed i = true) (hr : (Region.ready md ops listed).contains i = true) (hw : waitsOn md ops L i = true)
    (hQ : ∀ c a w, Q (.panic c) (a.put oi.dst v) w → Q (.panic c) a w) (hy : YieldsIf P ops S oi v a) (hS : S w)
    (h : wpAnyX P md ops Q S L fuel (listed.setIfInBounds i true) (a.put oi.dst v) w) : wpAnyX P md ops Q S L (fuel + 1) listed a w :=
  wpAnyX_first hi (Region.noSelect_spec hs) hQ (waitsOn_spec hw) fuel listed a w (Region.free_spec hi hf) (by simpa using hr) hy hS h

/-- Only number i may come up: what it does, and S behind it if it isn't the last. -/
theorem wpAnyX_one {i : Nat} {o : Oper} {fuel : Nat} {listed : Array Bool} {a : Act} {w : World} (ho : ops[i]? = some o) (hr : Region.ready md ops listed = [i])
    (h : ∀ K' : Act → World → Prop, Shut (∀ a w, (i ≠ L → S w) → ((i ≠ L → S w) → wpAnyX P md ops Q S L fuel (listed.setIfInBounds i true) a w) → K' a w) → if Region.wanted o (yielded ops a.tmps) = true then Oper.wp P o a w K' Q else K' (a.put o.dst undef) w) :
    wpAnyX P md ops Q S L (fuel + 1) listed a w := by
  refine ⟨fun h0 => (by rw [hr] at h0; cases h0), fun j hj => ?_⟩
  rw [hr] at hj
  obtain rfl : j = i := by simpa using hj
  exact wpOp_step ho (fun K' hK => h K' (fun a w hS hW => hK a w ⟨hS, hW hS⟩))

/-- Two may come up. -/
theorem wpAnyX_two {i j : Nat} {oi oj : Oper} {fuel : Nat} {listed : Array Bool} {a : Act} {w : World} (hi : ops[i]? = some oi) (hj : ops[j]? = some oj) (hr : Region.ready md ops listed = [i, j])
    (h1 : ∀ K' : Act → World → Prop, Shut (∀ a w, (i ≠ L → S w) → ((i ≠ L → S w) → wpAnyX P md ops Q S L fuel (listed.setIfInBounds i true) a w) → K' a w) → if Region.wanted oi (yielded ops a.tmps) = true then Oper.wp P oi a w K' Q else K' (a.put oi.dst undef) w)
    (h2 : ∀ K' : Act → World → Prop, Shut (∀ a w, (j ≠ L → S w) → ((j ≠ L → S w) → wpAnyX P md ops Q S L fuel (listed.setIfInBounds j true) a w) → K' a w) → if Region.wanted oj (yielded ops a.tmps) = true then Oper.wp P oj a w K' Q else K' (a.put oj.dst undef) w) :
    wpAnyX P md ops Q S L (fuel + 1) listed a w := by
  refine ⟨fun h0 => (by rw [hr] at h0; cases h0), fun k hk => ?_⟩
  rw [hr] at hk
  simp only [List.mem_cons, List.not_mem_nil, or_false] at hk
  rcases hk with rfl | rfl
  · exact wpOp_step hi (fun K' hK => h1 K' (fun a w hS hW => hK a w ⟨hS, hW hS⟩))
  · exact wpOp_step hj (fun K' hK => h2 K' (fun a w hS hW => hK a w ⟨hS, hW hS⟩))

theorem wpAnyX_done {listed : Array Bool} {a : Act} {w : World} (hr : Region.ready md ops listed = []) (h : Q .normal a w) :
    ∀ fuel, wpAnyX P md ops Q S L fuel listed a w
  | 0 => ⟨hr, h⟩
  | _ + 1 => ⟨fun _ => h, by rw [hr]; simp⟩

/-- The beginning: from the world behind the draw. -/
theorem wp_region_x (S : World → Prop) (L : Nat) {id : Nat} {a : Act} {w : World} (hm : P.follows .mixedOrders = true) (hS : S w.drew)
    (h : S w.drew → wpAnyX P .any ops Q S L ops.size (Array.replicate ops.size false) a w.drew) : (Code.region id ops true).wp P Q a w :=
  wp_region_any hm (wpAny_of_x _ _ _ _ (h hS))
end
theorem kst5 {a : World} {g k o o0 o1 o2 o3 o4 : Nat} {v v0 v1 v2 v3 v4 : Value} (hne : g ≠ k) (h : a.cell? ⟨k, o, none⟩ = some v) : (((((a.setCell ⟨g, o0, none⟩ v0).setCell ⟨g, o1, none⟩ v1).setCell ⟨g, o2, none⟩ v2).setCell ⟨g, o3, none⟩ v3).setCell ⟨g, o4, none⟩ v4).cell? ⟨k, o, none⟩ = some v := by
  rw [World.cell?_setCell_far _ _ _ _ hne, World.cell?_setCell_far _ _ _ _ hne, World.cell?_setCell_far _ _ _ _ hne, World.cell?_setCell_far _ _ _ _ hne, World.cell?_setCell_far _ _ _ _ hne, h]
end Go
namespace Go.Proofs.Ytnjckeadcbfogaa
open Go.RowKit RM
set_option linter.unusedVariables false
set_option linter.unusedSimpArgs false
attribute [local irreducible] World.setCell

open GM
set_option maxRecDepth 1000000 in
theorem band32 : (allN 32 fun a => allN 32 fun b => decide (bits .and .i64 (a : Int) (b : Int) = ((a &&& b : Nat) : Int))) = true := by decide +kernel
set_option maxRecDepth 1000000 in
theorem bxor32 : (allN 32 fun a => allN 32 fun b => decide (bits .xor .i64 (a : Int) (b : Int) = ((a ^^^ b : Nat) : Int))) = true := by decide +kernel
set_option maxRecDepth 1000000 in
theorem bnot32 : (allN 32 fun a => allN 32 fun b => decide (bits .andNot .i64 (a : Int) (b : Int) = ((a - (a &&& b) : Nat) : Int))) = true := by decide +kernel
theorem band {a b : Nat} (ha : a < 32) (hb : b < 32) : bits .and .i64 (a : Int) (b : Int) = ((a &&& b : Nat) : Int) := of_decide_eq_true (allN_get (allN_get band32 ha) hb)
theorem bxor {a b : Nat} (ha : a < 32) (hb : b < 32) : bits .xor .i64 (a : Int) (b : Int) = ((a ^^^ b : Nat) : Int) := of_decide_eq_true (allN_get (allN_get bxor32 ha) hb)
theorem bnot {a b : Nat} (ha : a < 32) (hb : b < 32) : bits .andNot .i64 (a : Int) (b : Int) = ((a - (a &&& b) : Nat) : Int) := of_decide_eq_true (allN_get (allN_get bnot32 ha) hb)
theorem msk32 {n q : Nat} (h5 : n ≤ 5) (hq : q < n) : msk n q < 32 := Nat.lt_of_lt_of_le (msk_lt hq) (pow_le h5)
set_option maxRecDepth 1000000 in
theorem shl_all : (allN 6 fun n => allN n fun q => decide (wrap64 ((2 : Int) ^ (n - 1 - q)) = ((msk n q : Nat) : Int))) = true := by decide +kernel
theorem shl_w {n q : Nat} (h5 : n ≤ 5) (hq : q < n) : wrap64 ((2 : Int) ^ (n - 1 - q)) = ((msk n q : Nat) : Int) := of_decide_eq_true (allN_get (allN_get shl_all (show n < 6 by omega)) hq)
theorem ret_i {k : IntKind} {a b : Int} (h : a = b) : Ending.returned (.int k a) = .returned (.int k b) := by rw [h]
theorem undrewK {W W' : World} (h : Below W.drew.heap.size W.drew W') : Below W.heap.size W W' := ⟨h.os, h.tape, h.output, h.size, h.block⟩

set_option maxRecDepth 100000 in
set_option maxHeartbeats 2000000 in
theorem kmask {n q c : Nat} {p : Int} {w : World} (h5 : n ≤ 5) (hq : q < n) :
    Calls Try.prog 166 #[.agg #[.int .i64 n, .int .i64 c, .int .i64 p], .int .i64 (q : Int)] w fun ee w' => ee = .returned (.int .i64 ((msk n q : Nat) : Int)) ∧ Below w.heap.size w w' := by
  have h1 : (n : Int) ≤ 5 := by omega
  have h2 : (q : Int) + 1 ≤ n := by omega
  have h3 : 0 ≤ (n : Int) - 1 - (q : Int) := by omega
  have HS := hid (shl_w h5 hq)
  go_enter Try.func166, Try.ntmps166
  go_wp2_with (fail)
  go_ret
  refine ⟨ret_i ?_, ?_⟩
  · exact HS.out
  · (repeat' (first | (with_reducible exact Below.refl _ _) | (with_reducible assumption) | (with_reducible refine Below.alloc ?_ ?_ _) | (with_reducible refine Below.drew ?_) | (with_reducible refine below_drewN ?_ _) | (with_reducible refine Below.setCell ?_ ?_ _) | (with_reducible refine chain ?_ (by assumption) ?_) | omega | (simp; done) | (simp; omega)))

set_option maxRecDepth 100000 in
set_option maxHeartbeats 2000000 in
theorem kbit_0 {n q c : Nat} {p : Int} {w : World} (h5 : n ≤ 5) (hq : q < n) (hc : c < 32) (h : c &&& msk n q = 0) :
    Calls Try.prog 113 #[.agg #[.int .i64 n, .int .i64 c, .int .i64 p], .int .i64 (q : Int)] w fun ee w' => ee = .returned (.int .i64 0) ∧ Below w.heap.size w w' := by
  have hz : bits .and .i64 (c : Int) ((msk n q : Nat) : Int) = 0 := by rw [band hc (msk32 h5 hq), h]; rfl
  clear h
  go_enter Try.func113, Try.ntmps113
  go_upto_region 1 with (fail)
  obtain ⟨W, hW⟩ : ∃ W : World, W = w.alloc (.cells #[.int .i64 (n : Int), .int .i64 (c : Int), .int .i64 p] 125) := ⟨_, rfl⟩
  have hbW : Below w.heap.size w W := by rw [hW]; exact (Below.refl _ _).alloc (Nat.le_refl _) _
  have XW : Bx W w.heap.size 125 #[.int .i64 (n : Int), .int .i64 (c : Int), .int .i64 p] := by rw [hW]; exact Bx.new rfl
  have hzW : w.heap.size < W.heap.size := by rw [hW]; simp
  rw [← hW]
  clear hW
  have c0 := XW.c 0 rfl
  have c1 := XW.c 1 rfl
  have c2 := XW.c 2 rfl
  have yc0 : W.drew.cell? ⟨w.heap.size, 0, none⟩ = some (.int .i64 (n : Int)) := c0
  have yc1 : W.drew.cell? ⟨w.heap.size, 1, none⟩ = some (.int .i64 (c : Int)) := c1
  have yc2 : W.drew.cell? ⟨w.heap.size, 2, none⟩ = some (.int .i64 p) := c2
  refine wp_region_x (fun w' => w'.cell? ⟨w.heap.size, 0, none⟩ = some (.int .i64 (n : Int)) ∧ w'.cell? ⟨w.heap.size, 1, none⟩ = some (.int .i64 (c : Int)) ∧ w'.cell? ⟨w.heap.size, 2, none⟩ = some (.int .i64 p)) 1000 (by kernel_rfl) ⟨yc0, yc1, yc2⟩ (fun hS0 => ?_)
  refine wpAnyX_take (i := 0) (oi := _) (v := ?_) rfl (by kernel_rfl) (by kernel_rfl) (by kernel_rfl) (by kernel_rfl) (fun _ _ _ h => h) (Or.inl ⟨by rfl, ?_⟩) hS0 ?_
  rotate_left 1
  · (intro w hSw; (try dsimp only at hSw); go_simp; (try with_reducible rfl))
  try simp only [Act.put, List.setIfInBounds_toArray, List.set_cons_zero, List.set_cons_succ]
  refine wpAnyX_take (i := 1) (oi := _) (v := ?_) rfl (by kernel_rfl) (by kernel_rfl) (by kernel_rfl) (by kernel_rfl) (fun _ _ _ h => h) (Or.inl ⟨by rfl, ?_⟩) hS0 ?_
  rotate_left 1
  · (intro w hSw; (try dsimp only at hSw); go_simp; (try with_reducible rfl))
  try simp only [Act.put, List.setIfInBounds_toArray, List.set_cons_zero, List.set_cons_succ]
  refine wpAnyX_take (i := 2) (oi := _) (v := ?_) rfl (by kernel_rfl) (by kernel_rfl) (by kernel_rfl) (by kernel_rfl) (fun _ _ _ h => h) (Or.inl ⟨by rfl, ?_⟩) hS0 ?_
  rotate_left 1
  · (intro w hSw; (try dsimp only at hSw); go_simp; (try with_reducible rfl))
  try simp only [Act.put, List.setIfInBounds_toArray, List.set_cons_zero, List.set_cons_succ]
  refine wpAnyX_take (i := 3) (oi := _) (v := ?_) rfl (by kernel_rfl) (by kernel_rfl) (by kernel_rfl) (by kernel_rfl) (fun _ _ _ h => h) (Or.inl ⟨by rfl, ?_⟩) hS0 ?_
  rotate_left 1
  · (intro w hSw; (try dsimp only at hSw); go_simp; (try with_reducible rfl))
  try simp only [Act.put, List.setIfInBounds_toArray, List.set_cons_zero, List.set_cons_succ]
  refine wpAnyX_one (i := 4) (o := _) rfl (by kernel_rfl) (fun K hK => ?_)
  go_simp
  refine (kmask h5 hq).mono ?_
  rintro ee w8 ⟨rfl, hb8⟩
  have hz8 := hb8.size
  refine hK.out _ _ (fun _ => ?_) (fun hS1 => ?_)
  · exact ⟨kc hb8 (hS0.1), kc hb8 (hS0.2.1), kc hb8 (hS0.2.2)⟩
  clear hK K
  have hS1 := hS1 (by decide)
  try simp only [Act.put, List.setIfInBounds_toArray, List.set_cons_zero, List.set_cons_succ]
  refine wpAnyX_take (i := 5) (oi := _) (v := ?_) rfl (by kernel_rfl) (by kernel_rfl) (by kernel_rfl) (by kernel_rfl) (fun _ _ _ h => h) (Or.inl ⟨by rfl, ?_⟩) hS1 ?_
  rotate_left 1
  · (intro w hSw; (try dsimp only at hSw); go_simp; (try with_reducible rfl))
  try simp only [Act.put, List.setIfInBounds_toArray, List.set_cons_zero, List.set_cons_succ]
  refine wpAnyX_take (i := 6) (oi := _) (v := ?_) rfl (by kernel_rfl) (by kernel_rfl) (by kernel_rfl) (by kernel_rfl) (fun _ _ _ h => h) (Or.inl ⟨by rfl, ?_⟩) hS1 ?_
  rotate_left 1
  · (intro w hSw; (try dsimp only at hSw); go_simp; (try with_reducible rfl))
  change wpAnyX _ _ _ _ _ _ _ _ (Act.put _ (some 11) _) _
  try simp only [Act.put, List.setIfInBounds_toArray, List.set_cons_zero, List.set_cons_succ]
  refine wpAnyX_done (by kernel_rfl) ?_ _
  go_wp2_with fail
  go_ret
  refine ⟨rfl, ?_⟩
  have hb9 := undrewK hb8
  (repeat' (first | (with_reducible exact Below.refl _ _) | (with_reducible assumption) | (with_reducible refine Below.alloc ?_ ?_ _) | (with_reducible refine Below.drew ?_) | (with_reducible refine below_drewN ?_ _) | (with_reducible refine Below.setCell ?_ ?_ _) | (with_reducible refine chain ?_ (by assumption) ?_) | omega | (simp; done) | (simp; omega)))

set_option maxRecDepth 100000 in
set_option maxHeartbeats 2000000 in
theorem kbit_1 {n q c : Nat} {p : Int} {w : World} (h5 : n ≤ 5) (hq : q < n) (hc : c < 32) (h : ¬ (c &&& msk n q = 0)) :
    Calls Try.prog 113 #[.agg #[.int .i64 n, .int .i64 c, .int .i64 p], .int .i64 (q : Int)] w fun ee w' => ee = .returned (.int .i64 1) ∧ Below w.heap.size w w' := by
  obtain ⟨z, hz9⟩ : ∃ z : Nat, z = c &&& msk n q := ⟨_, rfl⟩
  have hz : bits .and .i64 (c : Int) ((msk n q : Nat) : Int) = (z : Int) := by rw [band hc (msk32 h5 hq), ← hz9]
  have hz1 : 1 ≤ z := by omega
  have hz2 : ((z : Int) == 0) = false := by simp; omega
  clear hz9
  clear h
  go_enter Try.func113, Try.ntmps113
  go_upto_region 1 with (fail)
  obtain ⟨W, hW⟩ : ∃ W : World, W = w.alloc (.cells #[.int .i64 (n : Int), .int .i64 (c : Int), .int .i64 p] 125) := ⟨_, rfl⟩
  have hbW : Below w.heap.size w W := by rw [hW]; exact (Below.refl _ _).alloc (Nat.le_refl _) _
  have XW : Bx W w.heap.size 125 #[.int .i64 (n : Int), .int .i64 (c : Int), .int .i64 p] := by rw [hW]; exact Bx.new rfl
  have hzW : w.heap.size < W.heap.size := by rw [hW]; simp
  rw [← hW]
  clear hW
  have c0 := XW.c 0 rfl
  have c1 := XW.c 1 rfl
  have c2 := XW.c 2 rfl
  have yc0 : W.drew.cell? ⟨w.heap.size, 0, none⟩ = some (.int .i64 (n : Int)) := c0
  have yc1 : W.drew.cell? ⟨w.heap.size, 1, none⟩ = some (.int .i64 (c : Int)) := c1
  have yc2 : W.drew.cell? ⟨w.heap.size, 2, none⟩ = some (.int .i64 p) := c2
  refine wp_region_x (fun w' => w'.cell? ⟨w.heap.size, 0, none⟩ = some (.int .i64 (n : Int)) ∧ w'.cell? ⟨w.heap.size, 1, none⟩ = some (.int .i64 (c : Int)) ∧ w'.cell? ⟨w.heap.size, 2, none⟩ = some (.int .i64 p)) 1000 (by kernel_rfl) ⟨yc0, yc1, yc2⟩ (fun hS0 => ?_)
  refine wpAnyX_take (i := 0) (oi := _) (v := ?_) rfl (by kernel_rfl) (by kernel_rfl) (by kernel_rfl) (by kernel_rfl) (fun _ _ _ h => h) (Or.inl ⟨by rfl, ?_⟩) hS0 ?_
  rotate_left 1
  · (intro w hSw; (try dsimp only at hSw); go_simp; (try with_reducible rfl))
  try simp only [Act.put, List.setIfInBounds_toArray, List.set_cons_zero, List.set_cons_succ]
  refine wpAnyX_take (i := 1) (oi := _) (v := ?_) rfl (by kernel_rfl) (by kernel_rfl) (by kernel_rfl) (by kernel_rfl) (fun _ _ _ h => h) (Or.inl ⟨by rfl, ?_⟩) hS0 ?_
  rotate_left 1
  · (intro w hSw; (try dsimp only at hSw); go_simp; (try with_reducible rfl))
  try simp only [Act.put, List.setIfInBounds_toArray, List.set_cons_zero, List.set_cons_succ]
  refine wpAnyX_take (i := 2) (oi := _) (v := ?_) rfl (by kernel_rfl) (by kernel_rfl) (by kernel_rfl) (by kernel_rfl) (fun _ _ _ h => h) (Or.inl ⟨by rfl, ?_⟩) hS0 ?_
  rotate_left 1
  · (intro w hSw; (try dsimp only at hSw); go_simp; (try with_reducible rfl))
  try simp only [Act.put, List.setIfInBounds_toArray, List.set_cons_zero, List.set_cons_succ]
  refine wpAnyX_take (i := 3) (oi := _) (v := ?_) rfl (by kernel_rfl) (by kernel_rfl) (by kernel_rfl) (by kernel_rfl) (fun _ _ _ h => h) (Or.inl ⟨by rfl, ?_⟩) hS0 ?_
  rotate_left 1
  · (intro w hSw; (try dsimp only at hSw); go_simp; (try with_reducible rfl))
  try simp only [Act.put, List.setIfInBounds_toArray, List.set_cons_zero, List.set_cons_succ]
  refine wpAnyX_one (i := 4) (o := _) rfl (by kernel_rfl) (fun K hK => ?_)
  go_simp
  refine (kmask h5 hq).mono ?_
  rintro ee w8 ⟨rfl, hb8⟩
  have hz8 := hb8.size
  refine hK.out _ _ (fun _ => ?_) (fun hS1 => ?_)
  · exact ⟨kc hb8 (hS0.1), kc hb8 (hS0.2.1), kc hb8 (hS0.2.2)⟩
  clear hK K
  have hS1 := hS1 (by decide)
  try simp only [Act.put, List.setIfInBounds_toArray, List.set_cons_zero, List.set_cons_succ]
  refine wpAnyX_take (i := 5) (oi := _) (v := ?_) rfl (by kernel_rfl) (by kernel_rfl) (by kernel_rfl) (by kernel_rfl) (fun _ _ _ h => h) (Or.inl ⟨by rfl, ?_⟩) hS1 ?_
  rotate_left 1
  · (intro w hSw; (try dsimp only at hSw); go_simp; (try with_reducible rfl))
  try simp only [Act.put, List.setIfInBounds_toArray, List.set_cons_zero, List.set_cons_succ]
  refine wpAnyX_take (i := 6) (oi := _) (v := ?_) rfl (by kernel_rfl) (by kernel_rfl) (by kernel_rfl) (by kernel_rfl) (fun _ _ _ h => h) (Or.inl ⟨by rfl, ?_⟩) hS1 ?_
  rotate_left 1
  · (intro w hSw; (try dsimp only at hSw); go_simp; (try with_reducible rfl))
  change wpAnyX _ _ _ _ _ _ _ _ (Act.put _ (some 11) _) _
  try simp only [Act.put, List.setIfInBounds_toArray, List.set_cons_zero, List.set_cons_succ]
  refine wpAnyX_done (by kernel_rfl) ?_ _
  go_wp2_with fail
  go_ret
  refine ⟨rfl, ?_⟩
  have hb9 := undrewK hb8
  (repeat' (first | (with_reducible exact Below.refl _ _) | (with_reducible assumption) | (with_reducible refine Below.alloc ?_ ?_ _) | (with_reducible refine Below.drew ?_) | (with_reducible refine below_drewN ?_ _) | (with_reducible refine Below.setCell ?_ ?_ _) | (with_reducible refine chain ?_ (by assumption) ?_) | omega | (simp; done) | (simp; omega)))

theorem kbit {n q c : Nat} {p : Int} {w : World} (h5 : n ≤ 5) (hq : q < n) (hc : c < 32) :
    Calls Try.prog 113 #[.agg #[.int .i64 n, .int .i64 c, .int .i64 p], .int .i64 (q : Int)] w fun ee w' => ee = .returned (.int .i64 ((bitI n c q : Nat) : Int)) ∧ Below w.heap.size w w' := by
  rcases bitI_01 (n := n) (c := c) (q := q) with h | h
  · rw [h]; exact kbit_0 h5 hq hc (bitI_iff.1 h)
  · rw [h]; exact kbit_1 h5 hq hc (fun h2 => by rw [bitI_iff.2 h2] at h; cases h)

end Go.Proofs.Ytnjckeadcbfogaa
namespace Go.Proofs.Ytnjckeadcbfogaa
open Go.RowKit RM
set_option linter.unusedVariables false
set_option linter.unusedSimpArgs false
attribute [local irreducible] World.setCell

open GM
set_option maxRecDepth 1000000 in
theorem sh_all : (allN 6 fun n => allN n fun q => allN 32 fun c => decide (bits .and .i64 ((c : Int) / 2 ^ (n - 1 - q)) 1 = ((bitS n c q : Nat) : Int))) = true := by decide +kernel
theorem sh_at {n q c : Nat} (h5 : n ≤ 5) (hq : q < n) (hc : c < 32) : bits .and .i64 ((c : Int) / 2 ^ (n - 1 - q)) 1 = ((bitS n c q : Nat) : Int) := of_decide_eq_true (allN_get (allN_get (allN_get sh_all (show n < 6 by omega)) hq) hc)
theorem cellD_0 {m : Nat} : cellD m 0 = omP m := by
  have h : (omP m).e = 0 := by unfold omP; rw [turn_e]; rfl
  show (⟨(omP m).a, (omP m).b, (omP m).c, (omP m).d, ((0 : Nat) : Int)⟩ : D5) = omP m
  rw [show ((0 : Nat) : Int) = (omP m).e from h.symm]

set_option maxRecDepth 100000 in
set_option maxHeartbeats 2000000 in
theorem lbit {n q c : Nat} {w : World} (h5 : n ≤ 5) (hq : q < n) (hc : c < 32) :
    Calls Try.prog 107 #[.int .i64 (n : Int), .int .i64 (c : Int), .int .i64 (q : Int)] w fun ee w' => ee = .returned (.int .i64 ((bitS n c q : Nat) : Int)) ∧ w = w' := by
  have h1 : (n : Int) ≤ 5 := by omega
  have h2 : (q : Int) + 1 ≤ n := by omega
  have h3 : 0 ≤ (n : Int) - 1 - (q : Int) := by omega
  have h4 : (c : Int) < 32 := by omega
  go_enter Try.func107, Try.ntmps107
  go_wp2_with (fail)
  go_ret
  refine ⟨ret_i ?_, rfl⟩
  exact sh_at h5 hq hc

theorem tn_o {m : Nat} {w : World} (hm : m < 8) :
    Calls Try.prog 194 #[rg 1 0 0 0, .int .i64 (m : Int)] w fun ee w' => ee = .returned (rg (turn m one5).a (turn m one5).b (turn m one5).c (turn m one5).d) ∧ Below w.heap.size w w' :=
  tn_s (a := 1) (b := 0) (c := 0) (d := 0) (e := 0) hm (by omega) (by decide)
set_option maxRecDepth 100000 in
set_option maxHeartbeats 2000000 in
theorem lpw {m : Nat} {w : World} (hm : m < 8) :
    Calls Try.prog 147 #[.int .i64 (m : Int)] w fun ee w' => ee = .returned (omP m).v ∧ Below w.heap.size w w' := by
  rw [omP_v]
  have HM := hid hm
  clear hm
  go_enter Try.func147, Try.ntmps147
  go_wp2_with (fail)
  refine (tn_o HM.out).mono ?_
  rintro ee w1 ⟨rfl, hb1⟩
  obtain ⟨hc1, hf1, _⟩ := bcell hb1; have hz1 := hb1.size; (try simp at hz1); (try have hx10 : w.heap.size < w1.heap.size := (by omega)); (try have hx11 : w.heap.size + 1 < w1.heap.size := (by omega)); (try have hx12 : w.heap.size + 1 + 1 < w1.heap.size := (by omega)); (try have hx13 : w.heap.size + 1 + 1 + 1 < w1.heap.size := (by omega))
  go_wp2_with (fail)
  refine bodyPost_ret (v := dy (turn m one5).a (turn m one5).b (turn m one5).c (turn m one5).d 0) (by first | (simp [results, Try.results147, go_sem, *]; done) | (simp (disch := (first | omega | (simp; done) | (simp; omega))) [results, Try.results147, go_sem, *]; done) | (simp only [results, Try.results147]; go_simp; done)) rfl ⟨rfl, ?_⟩
  (repeat' (first | (with_reducible exact Below.refl _ _) | (with_reducible assumption) | (with_reducible refine Below.alloc ?_ ?_ _) | (with_reducible refine Below.drew ?_) | (with_reducible refine below_drewN ?_ _) | (with_reducible refine Below.setCell ?_ ?_ _) | (with_reducible refine chain ?_ (by assumption) ?_) | omega | (simp; done) | (simp; omega)))

theorem lpw0 {w : World} : Calls Try.prog 147 #[.int .i64 0] w fun ee w' => ee = .returned (omP 0).v ∧ Below w.heap.size w w' := lpw (m := 0) (by decide)
theorem lpw1 {w : World} : Calls Try.prog 147 #[.int .i64 1] w fun ee w' => ee = .returned (omP 1).v ∧ Below w.heap.size w w' := lpw (m := 1) (by decide)
theorem lpw2 {w : World} : Calls Try.prog 147 #[.int .i64 2] w fun ee w' => ee = .returned (omP 2).v ∧ Below w.heap.size w w' := lpw (m := 2) (by decide)
theorem lpw4 {w : World} : Calls Try.prog 147 #[.int .i64 4] w fun ee w' => ee = .returned (omP 4).v ∧ Below w.heap.size w w' := lpw (m := 4) (by decide)
theorem lpw6 {w : World} : Calls Try.prog 147 #[.int .i64 6] w fun ee w' => ee = .returned (omP 6).v ∧ Below w.heap.size w w' := lpw (m := 6) (by decide)
theorem lpw7 {w : World} : Calls Try.prog 147 #[.int .i64 7] w fun ee w' => ee = .returned (omP 7).v ∧ Below w.heap.size w w' := lpw (m := 7) (by decide)
end Go.Proofs.Ytnjckeadcbfogaa
