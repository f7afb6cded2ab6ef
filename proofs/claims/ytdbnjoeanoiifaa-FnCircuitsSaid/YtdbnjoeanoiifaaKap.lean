/- append of a list that is nil or lies in a block of its own. -/
import Derived.Test.YtdbnjoeanoiifaaAp
import Derived.Laws.AppendOwnNone
namespace Go.Proofs.Ytdbnjoeanoiifaa
open Go.RowKit
set_option linter.unusedVariables false
set_option linter.unusedSimpArgs false
/-- a slice that the call made: nil, or at the head of a block -/
def Pl (A : Option Addr) (n c : Nat) : Prop := ((A = none ∧ n = 0 ∧ c = 0) ∨ ∃ g, A = some ⟨g, 0, none⟩) ∧ n ≤ c ∧ c ≤ 9223372036854775807
theorem Pl.off {A : Option Addr} {n c g o : Nat} (h : Pl A n c) (e : A = some ⟨g, o, none⟩) : o = 0 := by
  rcases h.1 with ⟨h1, _⟩ | ⟨g', h1⟩
  · rw [h1] at e; cases e
  · rw [h1] at e; cases e; rfl
theorem Own.pl {α : Type} {E : Enc α} {W : World} {base : Nat} {t : TypeId} {A : Option Addr} {n c : Nat} {xs : List α} (h : Own E W base t (.slice A n c) xs) : Pl A n c := by
  rcases h.2 with ⟨h2, _⟩ | ⟨g, cap, cur, e1, _, _, e4, e5, _⟩
  · simp only [Value.slice.injEq] at h2
    obtain ⟨h3, h4, h5⟩ := h2
    exact ⟨Or.inl ⟨h3, h4, h5⟩, by omega, by omega⟩
  · simp only [Value.slice.injEq] at e1
    obtain ⟨h3, h4, h5⟩ := e1
    unfold maxLen at e5
    exact ⟨Or.inr ⟨g, h3⟩, by omega, by omega⟩
section
variable {α : Type} {E : Enc α} {P : Program} {w : World} {ops : Array Oper} {rest : List Oper} {o : Oper} {a : Act} {Q : Exit → Act → World → Prop}
/-- a list of values -/
theorem wpList_appO (hgd : o.guard = none) (s x : Operand) (t : TypeId) (ho : o.op = .call { callee := .builtin .append, args := #[s, x], argTypes := #[t, t] })
    (base : Nat) (e : TypeId) (i : TypeInfo) (z : Value) (bytes : Nat) (ht : P.underlying t = some (.slice e)) (hi : P.info? e = some i) (hz : i.zero = some z)
    (hsize : i.size = E.n) (hby : i.bytes = bytes) (hzs : z.cells.size = E.n) (v : Value) (zs : List α) (n : Nat) (hn : zs.length = n) (hs : a.eval s = v) (hown : Own E w base e v zs)
    (B : Option Addr) (m c : Nat) (ys : List α) (hP : Pl B m c) (hm : ys.length = m) (hx : a.eval x = .slice B m c) (hr : Rd E w B ys)
    (h63 : n + m ≤ maxLen) (hbytes : (n + m) * bytes ≤ 140737488355328) (hbase : base ≤ w.heap.size)
    (h : ∀ A cp w', Own E w' base e (.slice A (n + m) cp) (zs ++ ys) → w.grownBy w' v.ownBlock → ((Value.slice A (n + m) cp).ownBlock = v.ownBlock ∨ (Value.slice A (n + m) cp).ownBlock = some w.heap.size) → wpList P ops Q rest (a.put o.dst (.slice A (n + m) cp)) w') :
    wpList P ops Q (o :: rest) a w := by
  rcases hP.1 with ⟨rfl, rfl, rfl⟩ | ⟨g, rfl⟩
  · obtain rfl : ys = [] := List.eq_nil_of_length_eq_zero hm
    subst hn
    obtain ⟨A, cp, rfl, _⟩ := hown.ow
    refine wpList_append_own_none hgd s x t ho base e i E.n ht hi _ _ _ hs hown hx ?_
    refine h A cp w ?_ ?_ (Or.inl rfl)
    · rw [List.append_nil]; exact hown
    · exact ⟨rfl, rfl, rfl, Nat.le_refl _, fun _ _ _ => rfl⟩
  · exact wpList_appN hgd s x t ho base e i z bytes ht hi hz hsize hby hzs v zs n hn hs hown g 0 m c ys hm hx hr h63 hbytes hbase h
/-- a list of values, at a step of a region that draws its order -/
theorem step_appO {K : Act → World → Prop} {F : Prop} (hgd : o.guard = none) (s x : Operand) (t : TypeId) (ho : o.op = .call { callee := .builtin .append, args := #[s, x], argTypes := #[t, t] })
    (base : Nat) (e : TypeId) (i : TypeInfo) (z : Value) (bytes : Nat) (ht : P.underlying t = some (.slice e)) (hi : P.info? e = some i) (hz : i.zero = some z)
    (hsize : i.size = E.n) (hby : i.bytes = bytes) (hzs : z.cells.size = E.n) (v : Value) (zs : List α) (n : Nat) (hn : zs.length = n) (hs : a.eval s = v) (hown : Own E w base e v zs)
    (B : Option Addr) (m c : Nat) (ys : List α) (hP : Pl B m c) (hm : ys.length = m) (hx : a.eval x = .slice B m c) (hr : Rd E w B ys)
    (h63 : n + m ≤ maxLen) (hbytes : (n + m) * bytes ≤ 140737488355328) (hbase : base ≤ w.heap.size)
    (h : ∀ A cp w', Own E w' base e (.slice A (n + m) cp) (zs ++ ys) → w.grownBy w' v.ownBlock → ((Value.slice A (n + m) cp).ownBlock = v.ownBlock ∨ (Value.slice A (n + m) cp).ownBlock = some w.heap.size) → K (a.put o.dst (.slice A (n + m) cp)) w') :
    if Region.wanted o (yielded ops a.tmps) = true then Oper.wp P o a w K Q else F := by
  rcases hP.1 with ⟨rfl, rfl, rfl⟩ | ⟨g, rfl⟩
  · have hw : Region.wanted o (yielded ops a.tmps) = true := by simp [Region.wanted, hgd]
    rw [if_pos hw]
    obtain rfl : ys = [] := List.eq_nil_of_length_eq_zero hm
    subst hn
    obtain ⟨A, cp, rfl, _⟩ := hown.ow
    have hrun := run_append_owned_none (P := P) (w := w) base t o.type e i E.n ht hi _ _ _ hown
    unfold Oper.wp execOp
    simp only [ho, resolve, invoke, builtin, Sem.run_bind, Sem.run_pure, Result.andThen_ok, List.map_toArray, List.map_cons, List.map_nil, hs, hx, hrun]
    refine h A cp w ?_ ?_ (Or.inl rfl)
    · rw [List.append_nil]; exact hown
    · exact ⟨rfl, rfl, rfl, Nat.le_refl _, fun _ _ _ => rfl⟩
  · exact step_appN hgd s x t ho base e i z bytes ht hi hz hsize hby hzs v zs n hn hs hown g 0 m c ys hm hx hr h63 hbytes hbase h
end
end Go.Proofs.Ytdbnjoeanoiifaa
