/- append of flat values to a slice that the call made. -/
import Derived.Test.YtofclfgaekjonaaDoorEn
import Derived.Maps.AppendAt
namespace Go.Proofs.YtofclfgaekjonaaDoor
open Go.RowKit
set_option linter.unusedVariables false
set_option linter.unusedSimpArgs false
section
variable {α : Type} {E : Enc α} {P : Program} {w : World} {ops : Array Oper} {rest : List Oper} {o : Oper} {a : Act} {Q : Exit → Act → World → Prop}
/-- one value, that lies in a block of its own -/
theorem wpList_app1 (hgd : o.guard = none) (s x : Operand) (t : TypeId) (ho : o.op = .call { callee := .builtin .append, args := #[s, x], argTypes := #[t, t] })
    (base : Nat) (e : TypeId) (i : TypeInfo) (z : Value) (bytes : Nat) (ht : P.underlying t = some (.slice e)) (hi : P.info? e = some i) (hz : i.zero = some z)
    (hsize : i.size = E.n) (hby : i.bytes = bytes) (hzs : z.cells.size = E.n) (v : Value) (zs : List α) (n : Nat) (hn : zs.length = n) (hs : a.eval s = v) (hown : Own E w base e v zs)
    (b c : Nat) (y : α) (cs : Array Value) (hcs : cs.toList = E.cs y) (hx : a.eval x = .slice (some ⟨b, 0, none⟩) 1 c) (hb : w.heap[b]? = some (.cells cs e (0, 0)))
    (h63 : n + 1 ≤ maxLen) (hbytes : (n + 1) * bytes ≤ 140737488355328) (hbase : base ≤ w.heap.size)
    (h : ∀ A cp w', Own E w' base e (.slice A (n + 1) cp) (zs ++ [y]) → w.grownBy w' v.ownBlock → ((Value.slice A (n + 1) cp).ownBlock = v.ownBlock ∨ (Value.slice A (n + 1) cp).ownBlock = some w.heap.size) → wpList P ops Q rest (a.put o.dst (.slice A (n + 1) cp)) w') :
    wpList P ops Q (o :: rest) a w := by
  subst hn
  refine wpList_append_own_at w hgd s x t ho base e i z E.n bytes ht hi hz hsize hby hzs E.pos v _ (E.all zs) hs hown ⟨b, 0, none⟩ 1 c (E.cs y) hx (by rw [E.len]; omega) ?_ (E.one y) h63 hbytes hbase ?_
  · intro j u hu
    rw [← hcs] at hu
    exact World.news_of_block hb j u hu
  · intro v' w' h1 h2 _ h3
    have h4 := Own.snoc rfl h1
    obtain ⟨A, cp, rfl, _⟩ := h4.ow
    rw [List.length_append, List.length_singleton] at h3 h4 ⊢
    exact h A cp w' h4 h2 h3
/-- a list of values -/
theorem wpList_appN (hgd : o.guard = none) (s x : Operand) (t : TypeId) (ho : o.op = .call { callee := .builtin .append, args := #[s, x], argTypes := #[t, t] })
    (base : Nat) (e : TypeId) (i : TypeInfo) (z : Value) (bytes : Nat) (ht : P.underlying t = some (.slice e)) (hi : P.info? e = some i) (hz : i.zero = some z)
    (hsize : i.size = E.n) (hby : i.bytes = bytes) (hzs : z.cells.size = E.n) (v : Value) (zs : List α) (n : Nat) (hn : zs.length = n) (hs : a.eval s = v) (hown : Own E w base e v zs)
    (g off m c : Nat) (ys : List α) (hm : ys.length = m) (hx : a.eval x = .slice (some ⟨g, off, none⟩) m c) (hr : Rd E w (some ⟨g, off, none⟩) ys)
    (h63 : n + m ≤ maxLen) (hbytes : (n + m) * bytes ≤ 140737488355328) (hbase : base ≤ w.heap.size)
    (h : ∀ A cp w', Own E w' base e (.slice A (n + m) cp) (zs ++ ys) → w.grownBy w' v.ownBlock → ((Value.slice A (n + m) cp).ownBlock = v.ownBlock ∨ (Value.slice A (n + m) cp).ownBlock = some w.heap.size) → wpList P ops Q rest (a.put o.dst (.slice A (n + m) cp)) w') :
    wpList P ops Q (o :: rest) a w := by
  subst hn hm
  refine wpList_append_own_at w hgd s x t ho base e i z E.n bytes ht hi hz hsize hby hzs E.pos v _ (E.all zs) hs hown ⟨g, off, none⟩ _ c (E.all ys) hx (Enc.all_len ys) hr.all (Enc.all_one ys) h63 hbytes hbase ?_
  intro v' w' h1 h2 _ h3
  have h4 := Own.app rfl rfl h1
  obtain ⟨A, cp, rfl, _⟩ := h4.ow
  rw [List.length_append] at h3 h4 ⊢
  exact h A cp w' h4 h2 h3
/-- one value, at a step of a region that draws its order -/
theorem step_app1 {K : Act → World → Prop} {F : Prop} (hgd : o.guard = none) (s x : Operand) (t : TypeId) (ho : o.op = .call { callee := .builtin .append, args := #[s, x], argTypes := #[t, t] })
    (base : Nat) (e : TypeId) (i : TypeInfo) (z : Value) (bytes : Nat) (ht : P.underlying t = some (.slice e)) (hi : P.info? e = some i) (hz : i.zero = some z)
    (hsize : i.size = E.n) (hby : i.bytes = bytes) (hzs : z.cells.size = E.n) (v : Value) (zs : List α) (n : Nat) (hn : zs.length = n) (hs : a.eval s = v) (hown : Own E w base e v zs)
    (b c : Nat) (y : α) (cs : Array Value) (hcs : cs.toList = E.cs y) (hx : a.eval x = .slice (some ⟨b, 0, none⟩) 1 c) (hb : w.heap[b]? = some (.cells cs e (0, 0)))
    (h63 : n + 1 ≤ maxLen) (hbytes : (n + 1) * bytes ≤ 140737488355328) (hbase : base ≤ w.heap.size)
    (h : ∀ A cp w', Own E w' base e (.slice A (n + 1) cp) (zs ++ [y]) → w.grownBy w' v.ownBlock → ((Value.slice A (n + 1) cp).ownBlock = v.ownBlock ∨ (Value.slice A (n + 1) cp).ownBlock = some w.heap.size) → K (a.put o.dst (.slice A (n + 1) cp)) w') :
    if Region.wanted o (yielded ops a.tmps) = true then Oper.wp P o a w K Q else F := by
  have hw : Region.wanted o (yielded ops a.tmps) = true := by simp [Region.wanted, hgd]
  rw [if_pos hw]
  subst hn
  obtain ⟨v', w', hr, h2, h3, _, h5⟩ := run_append_own_at (P := P) w base t o.type e i z E.n bytes ht hi hz hsize hby hzs E.pos v _ (E.all zs) hown ⟨b, 0, none⟩ 1 c (E.cs y) (by rw [E.len]; omega) (fun j u hu => by rw [← hcs] at hu; exact World.news_of_block hb j u hu) (E.one y) h63 hbytes hbase
  have h4 := Own.snoc rfl h2
  obtain ⟨A, cp, rfl, _⟩ := h4.ow
  rw [List.length_append, List.length_singleton] at h5 h4 hr
  unfold Oper.wp execOp
  simp only [ho, resolve, invoke, builtin, Sem.run_bind, Sem.run_pure, Result.andThen_ok, List.map_toArray, List.map_cons, List.map_nil, hs, hx, hr]
  exact h A cp w' h4 h3 h5
/-- a list of values, at a step of a region that draws its order -/
theorem step_appN {K : Act → World → Prop} {F : Prop} (hgd : o.guard = none) (s x : Operand) (t : TypeId) (ho : o.op = .call { callee := .builtin .append, args := #[s, x], argTypes := #[t, t] })
    (base : Nat) (e : TypeId) (i : TypeInfo) (z : Value) (bytes : Nat) (ht : P.underlying t = some (.slice e)) (hi : P.info? e = some i) (hz : i.zero = some z)
    (hsize : i.size = E.n) (hby : i.bytes = bytes) (hzs : z.cells.size = E.n) (v : Value) (zs : List α) (n : Nat) (hn : zs.length = n) (hs : a.eval s = v) (hown : Own E w base e v zs)
    (g off m c : Nat) (ys : List α) (hm : ys.length = m) (hx : a.eval x = .slice (some ⟨g, off, none⟩) m c) (hr : Rd E w (some ⟨g, off, none⟩) ys)
    (h63 : n + m ≤ maxLen) (hbytes : (n + m) * bytes ≤ 140737488355328) (hbase : base ≤ w.heap.size)
    (h : ∀ A cp w', Own E w' base e (.slice A (n + m) cp) (zs ++ ys) → w.grownBy w' v.ownBlock → ((Value.slice A (n + m) cp).ownBlock = v.ownBlock ∨ (Value.slice A (n + m) cp).ownBlock = some w.heap.size) → K (a.put o.dst (.slice A (n + m) cp)) w') :
    if Region.wanted o (yielded ops a.tmps) = true then Oper.wp P o a w K Q else F := by
  have hw : Region.wanted o (yielded ops a.tmps) = true := by simp [Region.wanted, hgd]
  rw [if_pos hw]
  subst hn hm
  obtain ⟨v', w', hq, h2, h3, _, h5⟩ := run_append_own_at (P := P) w base t o.type e i z E.n bytes ht hi hz hsize hby hzs E.pos v _ (E.all zs) hown ⟨g, off, none⟩ _ c (E.all ys) (Enc.all_len ys) hr.all (Enc.all_one ys) h63 hbytes hbase
  have h4 := Own.app rfl rfl h2
  obtain ⟨A, cp, rfl, _⟩ := h4.ow
  rw [List.length_append] at h5 h4 hq
  unfold Oper.wp execOp
  simp only [ho, resolve, invoke, builtin, Sem.run_bind, Sem.run_pure, Result.andThen_ok, List.map_toArray, List.map_cons, List.map_nil, hs, hx, hq]
  exact h A cp w' h4 h3 h5
end
/-- behind an append: what is known of other blocks -/
theorem Own.lt {α : Type} {E : Enc α} {W : World} {base : Nat} {t : TypeId} {v : Value} {xs : List α} (h : Own E W base t v xs) : ∀ k, v.ownBlock = some k → base ≤ k ∧ k < W.heap.size := World.ownsRow.lt h
theorem Own.alloc {α : Type} {E : Enc α} {W : World} {base : Nat} {t : TypeId} {v : Value} {xs : List α} (h : Own E W base t v xs) (o : Obj) : Own E (W.alloc o) base t v xs := h.mono ((Below.refl _ _).alloc (Nat.le_refl _) _)
theorem Own.made {α : Type} {E : Enc α} {W : World} {base b cap : Nat} {t : TypeId} {cur : Array Value} (hbk : b = W.heap.size) (hb : base ≤ W.heap.size) (hm : cap ≤ maxLen) (hs : cur.size = cap * E.n) : Own E (W.alloc (.cells cur t)) base t (.slice (some ⟨b, 0, none⟩) 0 cap) ([] : List α) := by
  subst hbk
  exact World.ownsRow_made W cur cap hb hm hs
theorem Own.dn {α : Type} {E : Enc α} {W : World} {base base' : Nat} {t : TypeId} {v : Value} {xs : List α} (h : Own E W base t v xs) (hb : base' ≤ base) : Own E W base' t v xs := by
  refine ⟨h.1, ?_⟩
  rcases h.2 with h2 | ⟨g, cap, cur, e1, e2, e3⟩
  · exact Or.inl h2
  · exact Or.inr ⟨g, cap, cur, e1, Nat.le_trans hb e2, e3⟩
end Go.Proofs.YtofclfgaekjonaaDoor
