/- Bx, Ro, Rgx, Col, Held -/
import Derived.Test.YtnjckeadcbfogaaZq14
import Derived.Test.YtnjckeadcbfogaaZq15
import Derived.BigQuiet
import Derived.Deep.QuietTactic
import Derived.IntWalk
import Derived.OrdersHeld
import Derived.Deep.RegionHeld3
import Derived.Deep.RegionLaw
import Derived.Test.YtnjckeadcbfogaaZq1
import Derived.Deep.MidRow
namespace Go.Proofs.Ytnjckeadcbfogaa
open Go.RowKit RM
set_option linter.unusedVariables false
set_option linter.unusedSimpArgs false
/-- block b is just these cells -/
def Bx (W : World) (b : Nat) (t : TypeId) (cs : Array Value) : Prop := W.heap[b]? = some (.cells cs t (0, 0))
theorem Bx.lt {W : World} {b : Nat} {t : TypeId} {cs : Array Value} (h : Bx W b t cs) : b < W.heap.size := (Array.getElem?_eq_some_iff.1 h).1
theorem Bx.c {W : World} {b : Nat} {t : TypeId} {cs : Array Value} (h : Bx W b t cs) (i : Nat) {v : Value} (hv : cs[i]? = some v) : W.cell? ⟨b, i, none⟩ = some v := (cell_of_row W b i cs t (0, 0) h).trans hv
theorem Bx.f {W : World} {b : Nat} {t : TypeId} {cs : Array Value} (h : Bx W b t cs) (i : Nat) : W.frozen? ⟨b, i, none⟩ = false := frozen_of_row W b i cs t h
theorem Bx.new {W : World} {b : Nat} {t : TypeId} {cs : Array Value} (hb : b = W.heap.size) : Bx (W.alloc (.cells cs t)) b t cs := by subst hb; exact heap_alloc_new W _
theorem Bx.alloc {W : World} {b : Nat} {t : TypeId} {cs : Array Value} (h : Bx W b t cs) (o : Obj) : Bx (W.alloc o) b t cs := (Below.heap_alloc W o b h.lt).trans h
theorem Bx.drew {W : World} {b : Nat} {t : TypeId} {cs : Array Value} (h : Bx W b t cs) : Bx W.drew b t cs := h
theorem Bx.drewN {W : World} {b : Nat} {t : TypeId} {cs : Array Value} (h : Bx W b t cs) (n : Nat) : Bx (W.drewN n) b t cs := h
theorem Bx.far {W : World} {b : Nat} {t : TypeId} {cs : Array Value} (h : Bx W b t cs) {g o : Nat} {u : Value} (hp : b ≠ g) : Bx (W.setCell ⟨g, o, none⟩ u) b t cs := (Below.heap_setCell W _ u b hp).trans h
theorem Bx.set {W : World} {b : Nat} {t : TypeId} {cs cs' : Array Value} {i : Nat} {u : Value} (h : Bx W b t cs) (hc : cs' = cs.setIfInBounds i u) : Bx (W.setCell ⟨b, i, none⟩ u) b t cs' := by
  rw [hc]; exact heap_setCell_same W b i cs t u h
theorem Bx.mono {W W' : World} {b : Nat} {t : TypeId} {cs : Array Value} (h : Bx W b t cs) (hb : Below W.heap.size W W') : Bx W' b t cs := (hb.block b h.lt).trans h
theorem Bx.below {W W' : World} {B b : Nat} {t : TypeId} {cs : Array Value} (h : Bx W b t cs) (hb : Below B W W') (hB : b < B) : Bx W' b t cs := (hb.block b hB).trans h
theorem Bx.grown {W W' : World} {b : Nat} {t : TypeId} {cs : Array Value} {row : Option Nat} (h : Bx W b t cs) (hg : W.grownBy W' row) (hne : some b ≠ row) : Bx W' b t cs := (hg.block b h.lt hne).trans h
/-- behind a call that may set the model's failure -/
theorem Bx.badly {W W' : World} {b g o : Nat} {u : Value} {t : TypeId} {cs : Array Value} (h : Bx W b t cs) (hb : Below W.heap.size (W.setCell ⟨g, o, none⟩ u) W') (hne : b ≠ g) : Bx W' b t cs := (hb.block b h.lt).trans (h.far hne)
theorem Bx.bad {W W' : World} {g : Nat} {u v : Value} {t : TypeId} (h : Bx W g t #[v]) (hb : Below W.heap.size (W.setCell ⟨g, 0, none⟩ u) W') : Bx W' g t #[u] := (hb.block g h.lt).trans (h.set (cs' := #[u]) rfl)
end Go.Proofs.Ytnjckeadcbfogaa
namespace Go.Proofs.Ytnjckeadcbfogaa
open Go.RowKit RM
set_option linter.unusedVariables false
set_option linter.unusedSimpArgs false
attribute [local irreducible] World.setCell

set_option maxRecDepth 100000 in
set_option maxHeartbeats 4000000 in
theorem rw_i {r : Int} {C i s g n cp : Nat} {w : World} (hs : (i : Int) * (C : Int) = (s : Int)) (he : ((i : Int) + 1) * (C : Int) = ((s + C : Nat) : Int)) (h1 : s + C ≤ cp) (h2 : cp ≤ 1048576) (h3 : 1 ≤ C) (h4 : i ≤ 1048576) :
    Calls Try.prog 120 #[mv r C (some ⟨g, 0, none⟩) n cp, .int .i64 (i : Int)] w fun ee w' => ee = .returned (.slice (some ⟨g, s * 5, none⟩) C C) ∧ Below w.heap.size w w' := by
  have b0 : (s : Int) + C ≤ cp := by omega
  have b1 : (cp : Int) ≤ 1048576 := by omega
  have b2 : (1 : Int) ≤ C := by omega
  have b3 : (s : Int) ≤ 1048576 := by omega
  have b4 : ¬ (cp = s) := by omega
  have b6 : s + C - s = C := by omega
  have b5 : (i : Int) ≤ 1048576 := by omega
  simp only [Int.natCast_add] at he
  go_enter Try.func120, Try.ntmps120
  go_wp2_with (fail)
  go_quiet (fail)
  go_wp2_with (fail)
  go_ret
  refine ⟨by show Ending.returned (Value.slice _ (s + C - s) (s + C - s)) = _; rw [b6], ?_⟩
  (repeat' (first | (with_reducible exact Below.refl _ _) | (with_reducible assumption) | (with_reducible refine Below.alloc ?_ ?_ _) | (with_reducible refine Below.drew ?_) | (with_reducible refine below_drewN ?_ _) | (with_reducible refine Below.setCell ?_ ?_ _) | (with_reducible refine chain ?_ (by assumption) ?_) | omega | (simp; done) | (simp; omega)))

set_option maxRecDepth 100000 in
set_option maxHeartbeats 4000000 in
theorem zm {r c n : Nat} {w : World} (hn : (r : Int) * (c : Int) = (n : Int)) (hb : n ≤ 1024) :
    Calls Try.prog 100 #[.int .i64 (r : Int), .int .i64 (c : Int)] w fun ee w' => ∃ g, ee = .returned (mv (r : Int) (c : Int) (some ⟨g, 0, none⟩) n n) ∧ Bk w' g 59 (List.replicate n z5) ∧ w.heap.size ≤ g ∧ Below w.heap.size w w' := by
  have hmk := mkD n (by omega)
  have e2 : IntKind.i64.wrap (n : Int) = (n : Int) := IntWalk.i64_in _ (by omega)
  go_enter Try.func100, Try.ntmps100
  go_wp2_with (fail)
  refine bodyPost_ret (v := mv (r : Int) (c : Int) (some ⟨w.heap.size + 1, 0, none⟩) n n) (by first | (simp [results, Try.results100, go_sem, *]; done) | (simp (disch := (first | omega | (simp; done) | (simp; omega))) [results, Try.results100, go_sem, *]; done)) rfl ⟨_, rfl, ?_, by omega, ?_⟩
  · exact Bk.made' (by simp)
  · (repeat' (first | (with_reducible exact Below.refl _ _) | (with_reducible assumption) | (with_reducible refine Below.alloc ?_ ?_ _) | (with_reducible refine Below.drew ?_) | (with_reducible refine below_drewN ?_ _) | (with_reducible refine Below.setCell ?_ ?_ _) | (with_reducible refine chain ?_ (by assumption) ?_) | omega | (simp; done) | (simp; omega)))

end Go.Proofs.Ytnjckeadcbfogaa
namespace Go
section
variable {P : Program} {ops : Array Oper} {Q : Exit → Act → World → Prop} {md : Region.Mode} {S : World → Prop} {L : Nat}

/-- Whatever order is picked, and S holds behind every operation but number L. -/
def wpAnyX (P : Program) (md : Region.Mode) (ops : Array Oper) (Q : Exit → Act → World → Prop) (S : World → Prop) (L : Nat) : Nat → Array Bool → Act → World → Prop
  | 0, listed, a, w => Region.ready md ops listed = [] ∧ Q .normal a w
  | fuel + 1, listed, a, w =>
    (Region.ready md ops listed = [] → Q .normal a w) ∧
    ∀ i ∈ Region.ready md ops listed, wpOp P ops Q i (fun a' w' => (i ≠ L → S w') ∧ wpAnyX P md ops Q S L fuel (listed.setIfInBounds i true) a' w') a w

theorem wpAny_of_x : ∀ (fuel : Nat) (listed : Array Bool) (a : Act) (w : World), wpAnyX P md ops Q S L fuel listed a w → wpAny P md ops Q fuel listed a w
  | 0, _, _, _, h => h
  | fuel + 1, _, _, _, h => ⟨h.1, fun i hi => wpOp_mono (fun a' w' h' => wpAny_of_x fuel _ a' w' h'.2) (h.2 i hi)⟩

theorem wpAnyX_first {i : Nat} {oi : Oper} {v : Value} (hi : ops[i]? = some oi) (hsel : ∀ (j : Nat) (o : Oper) cs b, ops[j]? = some o → o.op ≠ .select cs b)
    (hQ : ∀ c a w, Q (.panic c) (a.put oi.dst v) w → Q (.panic c) a w)
    (hL : ∀ o, ops[L]? = some o → ∃ e ∈ o.after, Region.binds md e = true ∧ e.on = i) :
    ∀ (fuel : Nat) (listed : Array Bool) (a : Act) (w : World),
      (∀ j oj, ops[j]? = some oj → j ≠ i → listed.getD j true = false → (∀ e ∈ oj.after, Region.binds md e = true → e.on ≠ i) → oi.apart ops oj = true) →
      i ∈ Region.ready md ops listed → YieldsIf P ops S oi v a → S w →
      wpAnyX P md ops Q S L fuel (listed.setIfInBounds i true) (a.put oi.dst v) w → wpAnyX P md ops Q S L (fuel + 1) listed a w := by
  intro fuel
  induction fuel with
  | zero =>
    intro listed a w _ hr hy hS H
    refine ⟨fun h => (by rw [h] at hr; cases hr), fun j hj => ?_⟩
    by_cases hji : j = i
    · subst hji; exact hy.wpOp hi hS ⟨fun _ => hS, H⟩
    · have := ready_mono hj hji
      rw [H.1] at this
      cases this
  | succ fuel ih =>
    intro listed a w hfree hr hy hS H
    refine ⟨fun h => (by rw [h] at hr; cases hr), fun j hj => ?_⟩
    by_cases hji : j = i
    · subst hji; exact hy.wpOp hi hS ⟨fun _ => hS, H⟩
    · have h1 := H.2 j (ready_mono hj hji)
      obtain ⟨hjun, oj, hoj, hall⟩ := mem_ready.1 hj
      have hnot : ∀ e ∈ oj.after, Region.binds md e = true → e.on ≠ i := fun e he hb heq => by
        have h1 := hall e he hb
        have h0 := (mem_ready.1 hr).1
        rw [heq] at h1
        rcases Nat.lt_or_ge i listed.size with h' | h'
        · simp [h'] at h0 h1; rw [h0] at h1; cases h1
        · simp [Array.getElem?_eq_none h'] at h1
      have hjL : j ≠ L := fun e => by
        subst e
        obtain ⟨e, he, hb, ho⟩ := hL oj hoj
        exact hnot e he hb ho
      have h2 := wpOp_putIf hoj (hfree j oj hoj hji hjun hnot) (fun cs b => hsel i oi cs b hi) (fun cs b => hsel j oj cs b hoj) hQ hy h1
      have hfree' : ∀ k ok, ops[k]? = some ok → k ≠ i → (listed.setIfInBounds j true).getD k true = false →
          (∀ e ∈ ok.after, Region.binds md e = true → e.on ≠ i) → oi.apart ops ok = true := fun k ok hk hki hun hno => by
        refine hfree k ok hk hki ?_ hno
        by_cases hjk : j = k
        · subst hjk; exact hjun
        · rw [getD_set_ne true hjk] at hun; exact hun
      refine wpOp_mono (fun a' w' h3 => ⟨fun _ => h3.2.1 hjL, ih (listed.setIfInBounds j true) a' w' hfree' (ready_mono hr (Ne.symm hji)) h3.1 (h3.2.1 hjL) ?_⟩) h2
      rw [Array.setIfInBounds_comm _ _ hji]
      exact h3.2.2

/-- does operation L wait for number i? -/
def waitsOn (md : Region.Mode) (ops : Array Oper) (L i : Nat) : Bool :=
  match ops[L]? with
  | some o => o.after.toList.any fun e => Region.binds md e && e.on == i
  | none => true
theorem waitsOn_spec {i : Nat} (h : waitsOn md ops L i = true) : ∀ o, ops[L]? = some o → ∃ e ∈ o.after, Region.binds md e = true ∧ e.on = i := by
  intro o ho
  unfold waitsOn at h
  rw [ho] at h
  obtain ⟨e, he, hb⟩ := List.any_eq_true.1 h
  simp only [Bool.and_eq_true, beq_iff_eq] at hb
  exact ⟨e, by simpa using he, hb.1, hb.2⟩

theorem wpAnyX_take {i : Nat} {oi : Oper} {v : Value} {fuel : Nat} {listed : Array Bool} {a : Act} {w : World} (hi : ops[i]? = some oi)
    (hs : Region.noSelect ops = true) (hf : Region.free md ops listed i = true) (hr : (Region.ready md ops listed).contains i = true) (hw : waitsOn md ops L i = true)
    (hQ : ∀ c a w, Q (.panic c) (a.put oi.dst v) w → Q (.panic c) a w) (hy : YieldsIf P ops S oi v a) (hS : S w)
    (h : wpAnyX P md ops Q S L fuel (listed.setIfInBounds i true) (a.put oi.dst v) w) : wpAnyX P md ops Q S L (fuel + 1) listed a w :=
  wpAnyX_first hi (Region.noSelect_spec hs) hQ (waitsOn_spec hw) fuel listed a w (Region.free_spec hi hf) (by simpa using hr) hy hS h

/-- Only number i may come up: what it does, and S behind it if it isn't the last. -/
theorem wpAnyX_one {i : Nat} {o : Oper} {fuel : Nat} {listed : Array Bool} {a : Act} {w : World} (ho : ops[i]? = some o) (hr : Region.ready md ops listed = [i])
    (h : ∀ K' : Act → World → Prop, Shut (∀ a w, (i ≠ L → S w) → ((i ≠ L → S w) → wpAnyX P md ops Q S L fuel (listed.setIfInBounds i true) a w) → K' a w) → if Region.wanted o (yielded ops a.tmps) = true then Oper.wp P o a w K' Q else K' (a.put o.dst undef) w) :
    wpAnyX P md ops Q S L (fuel + 1) listed a w := by
  refine ⟨fun h0 => (by rw [hr] at h0; cases h0), fun j hj => ?_⟩
  rw [hr] at hj
  obtain rfl : j = i := by simpa using hj
  exact wpOp_step ho (fun K' hK => h K' (fun a w hS hW => hK a w ⟨hS, hW hS⟩))

/-- Two may come up. -/
theorem wpAnyX_two {i j : Nat} {oi oj : Oper} {fuel : Nat} {listed : Array Bool} {a : Act} {w : World} (hi : ops[i]? = some oi) (hj : ops[j]? = some oj) (hr : Region.ready md ops listed = [i, j])
    (h1 : ∀ K' : Act → World → Prop, Shut (∀ a w, (i ≠ L → S w) → ((i ≠ L → S w) → wpAnyX P md ops Q S L fuel (listed.setIfInBounds i true) a w) → K' a w) → if Region.wanted oi (yielded ops a.tmps) = true then Oper.wp P oi a w K' Q else K' (a.put oi.dst undef) w)
    (h2 : ∀ K' : Act → World → Prop, Shut (∀ a w, (j ≠ L → S w) → ((j ≠ L → S w) → wpAnyX P md ops Q S L fuel (listed.setIfInBounds j true) a w) → K' a w) → if Region.wanted oj (yielded ops a.tmps) = true then Oper.wp P oj a w K' Q else K' (a.put oj.dst undef) w) :
    wpAnyX P md ops Q S L (fuel + 1) listed a w := by
  refine ⟨fun h0 => (by rw [hr] at h0; cases h0), fun k hk => ?_⟩
  rw [hr] at hk
  simp only [List.mem_cons, List.not_mem_nil, or_false] at hk
  rcases hk with rfl | rfl
  · exact wpOp_step hi (fun K' hK => h1 K' (fun a w hS hW => hK a w ⟨hS, hW hS⟩))
  · exact wpOp_step hj (fun K' hK => h2 K' (fun a w hS hW => hK a w ⟨hS, hW hS⟩))

theorem wpAnyX_done {listed : Array Bool} {a : Act} {w : World} (hr : Region.ready md ops listed = []) (h : Q .normal a w) :
    ∀ fuel, wpAnyX P md ops Q S L fuel listed a w
  | 0 => ⟨hr, h⟩
  | _ + 1 => ⟨fun _ => h, by rw [hr]; simp⟩

/-- The beginning: from the world behind the draw. -/
theorem wp_region_x (S : World → Prop) (L : Nat) {id : Nat} {a : Act} {w : World} (hm : P.follows .mixedOrders = true) (hS : S w.drew)
    (h : S w.drew → wpAnyX P .any ops Q S L ops.size (Array.replicate ops.size false) a w.drew) : (Code.region id ops true).wp P Q a w :=
  wp_region_any hm (wpAny_of_x _ _ _ _ (h hS))
end
theorem kst5 {a : World} {g k o o0 o1 o2 o3 o4 : Nat} {v v0 v1 v2 v3 v4 : Value} (hne : g ≠ k) (h : a.cell? ⟨k, o, none⟩ = some v) : (((((a.setCell ⟨g, o0, none⟩ v0).setCell ⟨g, o1, none⟩ v1).setCell ⟨g, o2, none⟩ v2).setCell ⟨g, o3, none⟩ v3).setCell ⟨g, o4, none⟩ v4).cell? ⟨k, o, none⟩ = some v := by
  rw [World.cell?_setCell_far _ _ _ _ hne, World.cell?_setCell_far _ _ _ _ hne, World.cell?_setCell_far _ _ _ _ hne, World.cell?_setCell_far _ _ _ _ hne, World.cell?_setCell_far _ _ _ _ hne, h]
end Go
namespace Go.Proofs.Ytnjckeadcbfogaa
open Go.RowKit RM
set_option linter.unusedVariables false
set_option linter.unusedSimpArgs false
attribute [local irreducible] World.setCell

theorem append_ok {n : Nat} (h : n ≤ 1048576) : n + 1 ≤ maxLen ∧ (n + 1) * 40 ≤ 140737488355328 := by unfold maxLen; omega
theorem okM_nat {r c : Int} {n : Nat} {xs : List D5} (h : okM r c n xs = true) : ∃ R C : Nat, r = (R : Int) ∧ c = (C : Int) ∧ n = R * C ∧ 1 ≤ R ∧ R ≤ 32 ∧ 1 ≤ C ∧ C ≤ 32 ∧ n ≤ 1024 := by
  obtain ⟨h1, h2, h3, _⟩ := okM_iff.1 h
  obtain ⟨r0, r1, c0, c1, p0, p1⟩ := prod_bd h1 h2
  refine ⟨r.toNat, c.toNat, by omega, by omega, ?_, by omega, by omega, by omega, by omega, by omega⟩
  have : ((r.toNat * c.toNat : Nat) : Int) = r * c := by rw [Int.natCast_mul, Int.toNat_of_nonneg (by omega), Int.toNat_of_nonneg (by omega)]
  omega

end Go.Proofs.Ytnjckeadcbfogaa
namespace Go.Proofs.Ytnjckeadcbfogaa
open Go.RowKit
theorem bcell_drew {W w1 : World} (hb : Below W.drew.heap.size W.drew w1) : (∀ b o, b < W.heap.size → w1.cell? ⟨b, o, none⟩ = W.cell? ⟨b, o, none⟩) ∧ (∀ b o, b < W.heap.size → w1.frozen? ⟨b, o, none⟩ = W.frozen? ⟨b, o, none⟩) ∧ W.heap.size ≤ w1.heap.size :=
  bcell (W := W.drew) hb
end Go.Proofs.Ytnjckeadcbfogaa
