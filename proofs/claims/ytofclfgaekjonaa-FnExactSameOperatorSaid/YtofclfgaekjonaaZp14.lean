/- Sl, Tab, Ls1, Ls2, Ls3, Vm1, Gx, Bx -/
import Derived.Test.YtofclfgaekjonaaZp8
import Derived.Laws.OwnMore
import Derived.Deep.AppendLies
import Derived.Deep.Draws
import Derived.Deep.LoopGhost
import Derived.Laws.CopyOwn
import Derived.StillTailTactics
import Derived.Test.YtofclfgaekjonaaZp13
namespace Go.Proofs.Ytofclfgaekjonaa
open Go.RowKit RM
set_option linter.unusedVariables false
set_option linter.unusedSimpArgs false

theorem below_drewN {B : Nat} {a w : World} (h : Below B a w) (n : Nat) : Below B a (w.drewN n) := h.trans ⟨rfl, rfl, rfl, Nat.le_refl _, fun _ _ => rfl⟩
def D5.cs (x : D5) : List Value := [.int .i64 x.a, .int .i64 x.b, .int .i64 x.c, .int .i64 x.d, .int .i64 x.e]
def csL : List D5 → List Value
  | [] => []
  | x :: xs => x.cs ++ csL xs
theorem csL_len (xs : List D5) : (csL xs).length = xs.length * 5 := by
  induction xs with
  | nil => rfl
  | cons x xs ih => simp only [csL, List.length_append, ih, D5.cs, List.length_cons, List.length_nil]; omega
theorem csL_app (xs ys : List D5) : csL (xs ++ ys) = csL xs ++ csL ys := by
  induction xs with
  | nil => rfl
  | cons x xs ih => simp only [List.cons_append, csL, ih, List.append_assoc]
theorem csL_get {xs : List D5} {k : Nat} {x : D5} (h : xs[k]? = some x) : (csL xs)[k * 5]? = some (.int .i64 x.a) ∧ (csL xs)[k * 5 + 1]? = some (.int .i64 x.b) ∧ (csL xs)[k * 5 + 2]? = some (.int .i64 x.c) ∧ (csL xs)[k * 5 + 3]? = some (.int .i64 x.d) ∧ (csL xs)[k * 5 + 4]? = some (.int .i64 x.e) := by
  induction xs generalizing k with
  | nil => simp at h
  | cons y ys ih =>
    cases k with
    | zero =>
      simp only [List.getElem?_cons_zero, Option.some.injEq] at h
      subst h
      exact ⟨rfl, rfl, rfl, rfl, rfl⟩
    | succ k =>
      obtain ⟨h0, h1, h2, h3, h4⟩ := ih (k := k) (by simpa using h)
      have e : (csL (y :: ys)) = y.cs ++ csL ys := rfl
      have hl : y.cs.length = 5 := rfl
      rw [e]
      refine ⟨?_, ?_, ?_, ?_, ?_⟩
      all_goals (rw [List.getElem?_append_right (by omega), hl])
      · rw [show (k + 1) * 5 - 5 = k * 5 by omega]; exact h0
      · rw [show (k + 1) * 5 + 1 - 5 = k * 5 + 1 by omega]; exact h1
      · rw [show (k + 1) * 5 + 2 - 5 = k * 5 + 2 by omega]; exact h2
      · rw [show (k + 1) * 5 + 3 - 5 = k * 5 + 3 by omega]; exact h3
      · rw [show (k + 1) * 5 + 4 - 5 = k * 5 + 4 by omega]; exact h4
theorem csL_set {xs : List D5} {k : Nat} (x : D5) (h : k < xs.length) : csL (xs.set k x) = (((((csL xs).set (k * 5) (.int .i64 x.a)).set (k * 5 + 1) (.int .i64 x.b)).set (k * 5 + 2) (.int .i64 x.c)).set (k * 5 + 3) (.int .i64 x.d)).set (k * 5 + 4) (.int .i64 x.e) := by
  induction xs generalizing k with
  | nil => simp at h
  | cons y ys ih =>
    cases k with
    | zero => rfl
    | succ k =>
      have := ih (k := k) (by simpa using h)
      rw [List.set_cons_succ]
      show y.cs ++ csL (ys.set k x) = _
      rw [this]
      have e : (csL (y :: ys)) = y.cs ++ csL ys := rfl
      have hl : y.cs.length = 5 := rfl
      rw [e]
      have hset : ∀ (l : List Value) (j : Nat) (u : Value), (y.cs ++ l).set (j + 5) u = y.cs ++ l.set j u := by
        intro l j u
        rw [List.set_append_right _ _ (by omega), hl]
        congr 2
      rw [show (k + 1) * 5 = k * 5 + 5 by omega, show k * 5 + 5 + 1 = k * 5 + 1 + 5 by omega, show k * 5 + 5 + 2 = k * 5 + 2 + 5 by omega, show k * 5 + 5 + 3 = k * 5 + 3 + 5 by omega, show k * 5 + 5 + 4 = k * 5 + 4 + 5 by omega]
      simp only [hset]

/-- five cells of a number at an offset of a block -/
structure Cx (W : World) (g o : Nat) (x : D5) : Prop where
  c0 : W.cell? ⟨g, o, none⟩ = some (.int .i64 x.a)
  c1 : W.cell? ⟨g, o + 1, none⟩ = some (.int .i64 x.b)
  c2 : W.cell? ⟨g, o + 2, none⟩ = some (.int .i64 x.c)
  c3 : W.cell? ⟨g, o + 3, none⟩ = some (.int .i64 x.d)
  c4 : W.cell? ⟨g, o + 4, none⟩ = some (.int .i64 x.e)
theorem Cx.lt {W : World} {g o : Nat} {x : D5} (h : Cx W g o x) : g < W.heap.size := World.block_lt_of_cell? W _ h.c0
theorem Cx.at_ {W W' : World} {g o : Nat} {x : D5} (h : Cx W g o x) (hb : W'.heap[g]? = W.heap[g]?) : Cx W' g o x :=
  ⟨(World.cell?_of_block (a := ⟨g, o, none⟩) hb).trans h.c0, (World.cell?_of_block (a := ⟨g, o + 1, none⟩) hb).trans h.c1, (World.cell?_of_block (a := ⟨g, o + 2, none⟩) hb).trans h.c2, (World.cell?_of_block (a := ⟨g, o + 3, none⟩) hb).trans h.c3, (World.cell?_of_block (a := ⟨g, o + 4, none⟩) hb).trans h.c4⟩
/-- a slice's address under which these numbers lie -/
def Rd (W : World) (A : Option Addr) (xs : List D5) : Prop := ∀ k x, xs[k]? = some x → ∃ g o, A = some ⟨g, o, none⟩ ∧ Cx W g (o + k * 5) x
theorem Rd.at_ {W W' : World} {A : Option Addr} {xs : List D5} (h : Rd W A xs) (hb : ∀ a, A = some a → W'.heap[a.block]? = W.heap[a.block]?) : Rd W' A xs := by
  intro k x hk
  obtain ⟨g, o, rfl, hc⟩ := h k x hk
  exact ⟨g, o, rfl, hc.at_ (hb _ rfl)⟩
theorem Rd.mono {W W' : World} {A : Option Addr} {xs : List D5} (h : Rd W A xs) (hb : Below W.heap.size W W') : Rd W' A xs := by
  intro k x hk
  obtain ⟨g, o, rfl, hc⟩ := h k x hk
  exact ⟨g, o, rfl, hc.at_ (hb.block g hc.lt)⟩
theorem Rd.nil (W : World) (A : Option Addr) : Rd W A [] := fun k x h => by simp at h
theorem Rd.sub {W : World} {g o : Nat} {xs : List D5} (h : Rd W (some ⟨g, o, none⟩) xs) (i : Nat) : Rd W (some ⟨g, o + i * 5, none⟩) (xs.drop i) := by
  intro k x hk
  rw [List.getElem?_drop] at hk
  obtain ⟨g', o', he, hc⟩ := h _ _ hk
  simp only [Option.some.injEq, Addr.mk.injEq, and_true] at he
  obtain ⟨rfl, rfl⟩ := he
  exact ⟨g, o + i * 5, rfl, by rw [Nat.add_assoc, ← Nat.add_mul]; exact hc⟩
theorem Rd.take {W : World} {A : Option Addr} {xs : List D5} (h : Rd W A xs) (n : Nat) : Rd W A (xs.take n) := by
  intro k x hk
  rw [List.getElem?_take] at hk
  split at hk
  · exact h _ _ hk
  · cases hk

/-- a block of the call's own that holds these numbers and nothing else -/
def Bk (W : World) (g : Nat) (t : TypeId) (xs : List D5) : Prop := W.heap[g]? = some (.cells (csL xs).toArray t (0, 0))
theorem Bk.lt {W : World} {g : Nat} {t : TypeId} {xs : List D5} (h : Bk W g t xs) : g < W.heap.size := (Array.getElem?_eq_some_iff.1 h).1
theorem Bk.cx {W : World} {g : Nat} {t : TypeId} {xs : List D5} (h : Bk W g t xs) {k : Nat} {x : D5} (hk : xs[k]? = some x) : Cx W g (k * 5) x := by
  obtain ⟨h0, h1, h2, h3, h4⟩ := csL_get hk
  have hc := fun i => cell_of_row W g i _ t (0, 0) h
  exact ⟨by rw [hc]; simpa using h0, by rw [hc]; simpa using h1, by rw [hc]; simpa using h2, by rw [hc]; simpa using h3, by rw [hc]; simpa using h4⟩
theorem Bk.rd {W : World} {g : Nat} {t : TypeId} {xs : List D5} (h : Bk W g t xs) : Rd W (some ⟨g, 0, none⟩) xs := fun k x hk => ⟨g, 0, rfl, by rw [Nat.zero_add]; exact h.cx hk⟩
theorem Bk.fr {W : World} {g : Nat} {t : TypeId} {xs : List D5} (h : Bk W g t xs) (i : Nat) : W.frozen? ⟨g, i, none⟩ = false := frozen_of_row W g i _ t h
theorem Bk.mono {W W' : World} {g : Nat} {t : TypeId} {xs : List D5} (h : Bk W g t xs) (hb : Below W.heap.size W W') : Bk W' g t xs := (hb.block g h.lt).trans h
theorem Bk.at_ {W W' : World} {g : Nat} {t : TypeId} {xs : List D5} (h : Bk W g t xs) (hb : W'.heap[g]? = W.heap[g]?) : Bk W' g t xs := hb.trans h
theorem Bk.alloc {W : World} {g : Nat} {t : TypeId} {xs : List D5} (h : Bk W g t xs) (o : Obj) : Bk (W.alloc o) g t xs := (Below.heap_alloc W o g h.lt).trans h
theorem Bk.far {W : World} {g : Nat} {t : TypeId} {xs : List D5} (h : Bk W g t xs) {p : Addr} (hp : g ≠ p.block) (u : Value) : Bk (W.setCell p u) g t xs := (Below.heap_setCell W p u g hp).trans h
/-- the five stores of a number -/
def set5 (W : World) (g o : Nat) (x : D5) : World := ((((W.setCell ⟨g, o, none⟩ (.int .i64 x.a)).setCell ⟨g, o + 1, none⟩ (.int .i64 x.b)).setCell ⟨g, o + 2, none⟩ (.int .i64 x.c)).setCell ⟨g, o + 3, none⟩ (.int .i64 x.d)).setCell ⟨g, o + 4, none⟩ (.int .i64 x.e)
theorem Bk.set {W : World} {g : Nat} {t : TypeId} {xs : List D5} (h : Bk W g t xs) {k : Nat} (x : D5) (hk : k < xs.length) : Bk (set5 W g (k * 5) x) g t (xs.set k x) := by
  have h0 : W.heap[g]? = some (.cells (csL xs).toArray t (0, 0)) := h
  have h1 := heap_setCell_same _ g (k * 5) _ t (.int .i64 x.a) h0
  have h2 := heap_setCell_same _ g (k * 5 + 1) _ t (.int .i64 x.b) h1
  have h3 := heap_setCell_same _ g (k * 5 + 2) _ t (.int .i64 x.c) h2
  have h4 := heap_setCell_same _ g (k * 5 + 3) _ t (.int .i64 x.d) h3
  have h5 := heap_setCell_same _ g (k * 5 + 4) _ t (.int .i64 x.e) h4
  unfold Bk
  rw [csL_set x hk]
  refine h5.trans ?_
  simp only [List.setIfInBounds_toArray]
theorem set5_below {B : Nat} {a W : World} {g o : Nat} {x : D5} (h : Below B a W) (hg : B ≤ g) : Below B a (set5 W g o x) := ((((h.setCell (p := ⟨g, o, none⟩) hg _).setCell (p := ⟨g, o + 1, none⟩) hg _).setCell (p := ⟨g, o + 2, none⟩) hg _).setCell (p := ⟨g, o + 3, none⟩) hg _).setCell (p := ⟨g, o + 4, none⟩) hg _
theorem set5_far {W : World} {g o k : Nat} {x : D5} (h : k ≠ g) : (set5 W g o x).heap[k]? = W.heap[k]? := by
  unfold set5
  rw [Below.heap_setCell _ _ _ _ h, Below.heap_setCell _ _ _ _ h, Below.heap_setCell _ _ _ _ h, Below.heap_setCell _ _ _ _ h, Below.heap_setCell _ _ _ _ h]
theorem madeL (n : Nat) : (madeCells #[.int .i64 0, .int .i64 0, .int .i64 0, .int .i64 0, .int .i64 0] (n * 5)).toList = csL (List.replicate n z5) := by
  apply List.ext_getElem?
  intro j
  by_cases hj : j < n * 5
  · obtain ⟨q, r, rfl, hr⟩ : ∃ q r, j = q * 5 + r ∧ r < 5 := ⟨j / 5, j % 5, by omega, Nat.mod_lt _ (by omega)⟩
    have h5 : (List.replicate n z5)[q]? = some z5 := by rw [List.getElem?_replicate]; rw [if_pos (by omega)]
    obtain ⟨h0, h1, h2, h3, h4⟩ := csL_get h5
    have hm : (madeCells #[Value.int .i64 0, .int .i64 0, .int .i64 0, .int .i64 0, .int .i64 0] (n * 5)).toList[q * 5 + r]? = some (.int .i64 0) := by
      simp only [madeCells, Array.toList_map, Array.toList_range, List.getElem?_map, List.getElem?_range hj, Option.map_some]
      show some ((#[Value.int .i64 0, .int .i64 0, .int .i64 0, .int .i64 0, .int .i64 0] : Array Value)[(q * 5 + r) % 5]!) = _
      rw [show (q * 5 + r) % 5 = r by omega]
      have : r = 0 ∨ r = 1 ∨ r = 2 ∨ r = 3 ∨ r = 4 := by omega
      rcases this with k | k | k | k | k <;> rw [k] <;> rfl
    rw [hm]
    have : r = 0 ∨ r = 1 ∨ r = 2 ∨ r = 3 ∨ r = 4 := by omega
    rcases this with k | k | k | k | k
    · rw [k]; exact h0.symm
    · rw [k]; exact h1.symm
    · rw [k]; exact h2.symm
    · rw [k]; exact h3.symm
    · rw [k]; exact h4.symm
  · have h1 : (csL (List.replicate n z5)).length = n * 5 := by rw [csL_len, List.length_replicate]
    rw [List.getElem?_eq_none (by rw [Array.length_toList, size_madeCells]; omega), List.getElem?_eq_none (by omega)]
theorem madeA (n : Nat) : madeCells #[.int .i64 0, .int .i64 0, .int .i64 0, .int .i64 0, .int .i64 0] (n * 5) = (csL (List.replicate n z5)).toArray := by
  rw [← madeL]
theorem Bk.made (W : World) (t : TypeId) (n : Nat) : Bk (W.alloc (.cells (csL (List.replicate n z5)).toArray t)) W.heap.size t (List.replicate n z5) := heap_alloc_new W _
theorem addr_add (g o j : Nat) : (⟨g, o, none⟩ : Addr).add j = ⟨g, o + j, none⟩ := by unfold Addr.add; split <;> simp_all
theorem csL_at {W : World} {g o : Nat} {ys : List D5} (h : Rd W (some ⟨g, o, none⟩) ys) : ∀ j v, (csL ys)[j]? = some v → W.cell? ((⟨g, o, none⟩ : Addr).add j) = some v := by
  intro j v hj
  have hl : j < ys.length * 5 := by
    have := (List.getElem?_eq_some_iff.1 hj).1
    rwa [csL_len] at this
  have hk : j / 5 < ys.length := by omega
  have hx : ys[j / 5]? = some ys[j / 5] := List.getElem?_eq_getElem hk
  obtain ⟨g', o', he, hc⟩ := h _ _ hx
  simp only [Option.some.injEq, Addr.mk.injEq, and_true] at he
  obtain ⟨rfl, rfl⟩ := he
  obtain ⟨h0, h1, h2, h3, h4⟩ := csL_get hx
  rw [addr_add]
  have : j % 5 = 0 ∨ j % 5 = 1 ∨ j % 5 = 2 ∨ j % 5 = 3 ∨ j % 5 = 4 := by omega
  rcases this with k | k | k | k | k
  · have e : j = j / 5 * 5 := by omega
    rw [e] at hj ⊢; rw [h0] at hj; rw [← hj]; exact hc.c0
  · have e : j = j / 5 * 5 + 1 := by omega
    rw [e] at hj ⊢; rw [h1] at hj; rw [← hj]; exact hc.c1
  · have e : j = j / 5 * 5 + 2 := by omega
    rw [e] at hj ⊢; rw [h2] at hj; rw [← hj]; exact hc.c2
  · have e : j = j / 5 * 5 + 3 := by omega
    rw [e] at hj ⊢; rw [h3] at hj; rw [← hj]; exact hc.c3
  · have e : j = j / 5 * 5 + 4 := by omega
    rw [e] at hj ⊢; rw [h4] at hj; rw [← hj]; exact hc.c4
theorem csL_one (xs : List D5) : ∀ v ∈ csL xs, v.oneCell' = true := by
  induction xs with
  | nil => intro v h; cases h
  | cons x xs ih =>
    intro v h
    rcases List.mem_append.1 h with h | h
    · simp only [D5.cs, List.mem_cons, List.not_mem_nil, or_false] at h
      rcases h with rfl | rfl | rfl | rfl | rfl <;> rfl
    · exact ih v h
theorem csL_take (xs : List D5) (n : Nat) : csL (xs.take n) = (csL xs).take (n * 5) := by
  induction xs generalizing n with
  | nil => simp [csL]
  | cons x xs ih =>
    cases n with
    | zero => simp [csL]
    | succ n =>
      rw [List.take_succ_cons]
      show x.cs ++ csL (xs.take n) = _
      rw [ih]
      show _ = (x.cs ++ csL xs).take ((n + 1) * 5)
      rw [List.take_append, show x.cs.length = 5 from rfl, show (n + 1) * 5 - 5 = n * 5 by omega, List.take_of_length_le (l := x.cs) (by show 5 ≤ _; omega)]
theorem csL_drop (xs : List D5) (n : Nat) : csL (xs.drop n) = (csL xs).drop (n * 5) := by
  induction xs generalizing n with
  | nil => simp [csL]
  | cons x xs ih =>
    cases n with
    | zero => simp [csL]
    | succ n =>
      rw [List.drop_succ_cons, ih]
      show _ = (x.cs ++ csL xs).drop ((n + 1) * 5)
      rw [List.drop_append, show x.cs.length = 5 from rfl, show (n + 1) * 5 - 5 = n * 5 by omega, List.drop_of_length_le (l := x.cs) (by show 5 ≤ _; omega), List.nil_append]

/-- copy of numbers into a block of the call's own -/
theorem run_copy5 {P : Program} (w : World) (dT sT ty elem : TypeId) (g o dLen dCap : Nat) (a : Addr) (sLen sCap m : Nat) (cur : Array Value) (t : TypeId) (cs : List Value)
    (hu : P.underlying dT = some (.slice elem)) (hs : (P.info? elem).map (·.size) = some 5)
    (hg : w.heap[g]? = some (.cells cur t (0, 0))) (hm : m = Nat.min sLen dLen) (hn : cs.length = m * 5)
    (hsrc : ∀ j v, cs[j]? = some v → w.cell? (a.add j) = some v) (hfit : o + cs.length ≤ cur.size) (h1 : ∀ v ∈ cs, v.oneCell' = true) :
    (Builtin.copy_ #[dT, sT] ty #[.slice (some ⟨g, o, none⟩) dLen dCap, .slice (some a) sLen sCap]).run P w =
      .ok (goInt m) (w.setRow g (cur.toList.take o ++ cs ++ cur.toList.drop (o + cs.length)).toArray) := by
  have hl := run_loadCells_list (P := P) w a cs hsrc
  have hst := run_storeCells_at P g o t cs 0 cur w hg (by simpa using hfit) h1
  cases hq : P.info? elem with
  | none => simp [hq] at hs
  | some i =>
    have hi : i.size = 5 := by simpa [hq] using hs
    rw [hn] at hl
    simp [Builtin.copy_, run_underlying hu, Builtin.lenOf, Builtin.firstCells, sizeOf, typeInfo, hq, hi, ← hm, hl, hst]
theorem wpList_copy5 {P : Program} {w : World} {ops : Array Oper} {rest : List Oper} {o : Oper} {a : Act} {Q : Exit → Act → World → Prop} (hgd : o.guard = none) (d s : Operand) (dT sT : TypeId)
    (ho : o.op = .call { callee := .builtin .copy, args := #[d, s], argTypes := #[dT, sT] }) (elem : TypeId) (hu : P.underlying dT = some (.slice elem)) (hsz : (P.info? elem).map (·.size) = some 5)
    (g k off m dCap : Nat) (sg so sCap : Nat) (hd : a.eval d = .slice (some ⟨g, off, none⟩) m dCap) (hs : a.eval s = .slice (some ⟨sg, so, none⟩) m sCap) (hoff : off = k * 5)
    (cur ys : List D5) (t : TypeId) (hg : Bk w g t cur) (hr : Rd w (some ⟨sg, so, none⟩) ys) (hl : ys.length = m) (hfit : k + m ≤ cur.length) (B : Nat) (w0 : World) (hb : Below B w0 w) (hBg : B ≤ g)
    (h : ∀ w', Bk w' g t (cur.take k ++ (ys ++ cur.drop (k + m))) → Below B w0 w' → (∀ j, j ≠ g → w'.heap[j]? = w.heap[j]?) → w'.heap.size = w.heap.size → wpList P ops Q rest (a.put o.dst (goInt m)) w') :
    wpList P ops Q (o :: rest) a w := by
  refine wpList_plain hgd fun K hK => ?_
  subst hoff
  have hrun := run_copy5 (P := P) w dT sT o.type elem g (k * 5) m dCap ⟨sg, so, none⟩ m sCap m _ t (csL ys) hu hsz hg (Nat.min_self m).symm (by rw [csL_len, hl]) (csL_at hr) (by rw [csL_len, List.size_toArray, csL_len]; omega) (csL_one ys)
  have hbk : Bk (w.setRow g (((csL cur).toArray.toList.take (k * 5) ++ csL ys ++ (csL cur).toArray.toList.drop (k * 5 + (csL ys).length)).toArray)) g t (cur.take k ++ (ys ++ cur.drop (k + m))) := by
    unfold Bk
    rw [setRow_heap w g _ _ t _ hg, csL_app, csL_app, csL_take, csL_drop, csL_len, hl, ← Nat.add_mul, List.append_assoc]
  have hK' := hK _ _ (h _ hbk (below_setRow hb hBg _) (fun j hj => setRow_other w g j _ hj) (by simp [World.setRow]))
  unfold Oper.wp
  simp only [execOp, ho, resolve, invoke, builtin, hd, hs, List.map_toArray, List.map_cons, List.map_nil, Sem.run_bind, Sem.run_pure, Result.andThen_ok, hrun]
  exact hK'
/-- read below a block number; owned from a block number on -/
def RdB (W : World) (B : Nat) (A : Option Addr) (xs : List D5) : Prop := ∀ k x, xs[k]? = some x → ∃ g o, A = some ⟨g, o, none⟩ ∧ g < B ∧ Cx W g (o + k * 5) x
theorem Rd.b {W : World} {A : Option Addr} {xs : List D5} (h : Rd W A xs) {B : Nat} (hB : W.heap.size ≤ B) : RdB W B A xs := fun k x hk => by
  obtain ⟨g, o, e, hc⟩ := h k x hk
  exact ⟨g, o, e, Nat.lt_of_lt_of_le hc.lt hB, hc⟩
theorem RdB.rd {W : World} {B : Nat} {A : Option Addr} {xs : List D5} (h : RdB W B A xs) : Rd W A xs := fun k x hk => by
  obtain ⟨g, o, e, _, hc⟩ := h k x hk
  exact ⟨g, o, e, hc⟩
theorem RdB.up {W : World} {B B' : Nat} {A : Option Addr} {xs : List D5} (h : RdB W B A xs) (hB : B ≤ B') : RdB W B' A xs := fun k x hk => by
  obtain ⟨g, o, e, hg, hc⟩ := h k x hk
  exact ⟨g, o, e, by omega, hc⟩
theorem RdB.keep {W W' : World} {B : Nat} {A : Option Addr} {xs : List D5} (h : RdB W B A xs) (hk : ∀ g, g < B → g < W.heap.size → W'.heap[g]? = W.heap[g]?) : RdB W' B A xs := fun k x hx => by
  obtain ⟨g, o, e, hg, hc⟩ := h k x hx
  exact ⟨g, o, e, hg, hc.at_ (hk g hg hc.lt)⟩
theorem RdB.mono {W W' : World} {B : Nat} {A : Option Addr} {xs : List D5} (h : RdB W B A xs) (hb : Below W.heap.size W W') : RdB W' B A xs := h.keep fun g _ hg => hb.block g hg
theorem RdB.grown {W W' : World} {B : Nat} {A : Option Addr} {xs : List D5} {row : Option Nat} (h : RdB W B A xs) (hg : W.grownBy W' row) (hr : ∀ r, row = some r → B ≤ r) : RdB W' B A xs := h.keep fun g h1 h2 => hg.block g h2 (fun e => by have := hr g e.symm; omega)
def Ow (W : World) (B : Nat) (t : TypeId) (A : Option Addr) (xs : List D5) : Prop := (xs = [] ∧ A = none) ∨ ∃ g, A = some ⟨g, 0, none⟩ ∧ B ≤ g ∧ Bk W g t xs
theorem Ow.rd {W : World} {B : Nat} {t : TypeId} {A : Option Addr} {xs : List D5} (h : Ow W B t A xs) : Rd W A xs := by
  rcases h with ⟨rfl, _⟩ | ⟨g, rfl, _, h⟩
  · exact Rd.nil _ _
  · exact h.rd
theorem Ow.mono {W W' : World} {B : Nat} {t : TypeId} {A : Option Addr} {xs : List D5} (h : Ow W B t A xs) (hb : Below W.heap.size W W') : Ow W' B t A xs := by
  rcases h with h | ⟨g, rfl, h1, h2⟩
  · exact Or.inl h
  · exact Or.inr ⟨g, rfl, h1, h2.mono hb⟩
theorem Ow.grown {W W' : World} {B : Nat} {t : TypeId} {A : Option Addr} {xs : List D5} {row : Option Nat} (h : Ow W B t A xs) (hg : W.grownBy W' row) (hr : ∀ r, row = some r → r < B) : Ow W' B t A xs := by
  rcases h with h | ⟨g, rfl, h1, h2⟩
  · exact Or.inl h
  · exact Or.inr ⟨g, rfl, h1, h2.at_ (hg.block g h2.lt (fun e => by have := hr g e.symm; omega))⟩
theorem Ow.low {W : World} {B : Nat} {t : TypeId} {A : Option Addr} {xs : List D5} (h : Ow W B t A xs) : ∀ a, A = some a → B ≤ a.block := by
  intro a ha
  rcases h with ⟨_, rfl⟩ | ⟨g, rfl, h1, _⟩
  · cases ha
  · simp only [Option.some.injEq] at ha; subst ha; exact h1
theorem Bk.ow {W : World} {g B : Nat} {t : TypeId} {xs : List D5} (h : Bk W g t xs) (hB : B ≤ g) : Ow W B t (some ⟨g, 0, none⟩) xs := Or.inr ⟨g, rfl, hB, h⟩
/-- the block of a slice's address -/
def blk (A : Option Addr) : Option Nat := A.map (·.block)
theorem Ow.row {W : World} {B : Nat} {t : TypeId} {A : Option Addr} {xs : List D5} (h : Ow W B t A xs) : ∀ r, blk A = some r → B ≤ r ∧ r < W.heap.size := by
  intro r hr
  rcases h with ⟨_, rfl⟩ | ⟨g, rfl, h1, h2⟩
  · cases hr
  · simp only [blk, Option.map_some, Option.some.injEq] at hr
    subst hr
    exact ⟨h1, h2.lt⟩
theorem grown_trans {a b c : World} {row : Option Nat} (h : a.grownBy b row) (k : b.grownBy c row) : a.grownBy c row :=
  ⟨k.os.trans h.os, k.tape.trans h.tape, k.output.trans h.output, Nat.le_trans h.size k.size, fun i hi hr => (k.block i (Nat.lt_of_lt_of_le hi h.size) hr).trans (h.block i hi hr)⟩
theorem grown_below {a b : World} {row : Option Nat} (h : Below a.heap.size a b) : a.grownBy b row := ⟨h.os, h.tape, h.output, h.size, fun k hk _ => h.block k hk⟩
theorem grown_set5 {a b : World} {g o : Nat} {x : D5} (h : a.grownBy b (some g)) : a.grownBy (set5 b g o x) (some g) :=
  have hb := set5_below (x := x) (o := o) (Below.refl g b) (Nat.le_refl g)
  grown_trans h ⟨hb.os, hb.tape, hb.output, hb.size, fun k _ hk => set5_far (fun e => hk (by rw [e]))⟩
end Go.Proofs.Ytofclfgaekjonaa
namespace Go.Proofs.Ytofclfgaekjonaa
open Go.RowKit RM
set_option linter.unusedVariables false
set_option linter.unusedSimpArgs false
def tab (n : Nat) (f : Nat → D5) : List D5 := (List.range n).map f
theorem tab_len (n : Nat) (f : Nat → D5) : (tab n f).length = n := by simp [tab]
theorem tab_succ (n : Nat) (f : Nat → D5) : tab (n + 1) f = tab n f ++ [f n] := by simp [tab, List.range_succ]
theorem tab_get {n : Nat} {f : Nat → D5} {k : Nat} (h : k < n) : (tab n f)[k]? = some (f k) := by simp [tab, h]
theorem tab_congr {n : Nat} {f g : Nat → D5} (h : ∀ q, q < n → f q = g q) : tab n f = tab n g := by
  unfold tab
  exact List.map_congr_left (fun q hq => h q (List.mem_range.1 hq))
theorem tab_set {n : Nat} {f : Nat → D5} {k : Nat} {v : D5} (h : k < n) : (tab n f).set k v = tab n (fun q => if q = k then v else f q) := by
  apply List.ext_getElem?
  intro q
  by_cases hq : q < n
  · rw [List.getElem?_set, tab_get hq, tab_len]
    by_cases hk : k = q
    · subst hk; rw [tab_get h]; simp [h]
    · rw [if_neg hk, tab_get hq, if_neg (fun e => hk e.symm)]
  · rw [List.getElem?_eq_none (by rw [List.length_set, tab_len]; omega), List.getElem?_eq_none (by rw [tab_len]; omega)]
theorem tab_repl (n : Nat) : List.replicate n z5 = tab n (fun _ => z5) := by
  unfold tab
  rw [List.map_const']
  simp
theorem list_tab (xs : List D5) : xs = tab xs.length (fun q => xs.getD q z5) := by
  apply List.ext_getElem?
  intro q
  by_cases hq : q < xs.length
  · rw [tab_get hq, List.getD_eq_getElem?_getD, List.getElem?_eq_getElem hq]; rfl
  · rw [List.getElem?_eq_none (by omega), List.getElem?_eq_none (by rw [tab_len]; omega)]
theorem getD_of {xs : List D5} {q : Nat} {x : D5} (h : xs[q]? = some x) : xs.getD q z5 = x := by rw [List.getD_eq_getElem?_getD, h]; rfl
theorem get_of {xs : List D5} {q : Nat} (h : q < xs.length) : xs[q]? = some (xs.getD q z5) := by rw [List.getD_eq_getElem?_getD, List.getElem?_eq_getElem h]; rfl
theorem Rd.far {W : World} {A : Option Addr} {xs : List D5} (h : Rd W A xs) {p : Addr} (hp : ∀ a, A = some a → a.block ≠ p.block) (u : Value) : Rd (W.setCell p u) A xs := h.at_ fun a ha => Below.heap_setCell _ _ _ _ (hp a ha)
theorem Bk.made' {W : World} {t : TypeId} {n b : Nat} (hb : b = W.heap.size) : Bk (W.alloc (.cells (csL (List.replicate n z5)).toArray t)) b t (List.replicate n z5) := by subst hb; exact Bk.made W t n
/-- a slice value that owns these numbers -/
def Own5 (W : World) (base : Nat) (t : TypeId) (v : Value) (xs : List D5) : Prop := W.ownsRow base t 5 v xs.length (csL xs)
theorem Own5.nil (W : World) (base : Nat) (t : TypeId) : Own5 W base t (.slice none 0 0) [] := World.ownsRow_nil W base t 5
theorem Own5.form {W : World} {base : Nat} {t : TypeId} {v : Value} {xs : List D5} (h : Own5 W base t v xs) : ∃ A cp, v = .slice A xs.length cp ∧ Rd W A xs ∧ (∀ a, A = some a → base ≤ a.block ∧ a.block < W.heap.size) := by
  have hlt := World.ownsRow.lt h
  rcases h.2 with ⟨hv, h0⟩ | ⟨g, cap, cur, hv, hb, hg, hnc, hcm, hcs, htake⟩
  · have hx : xs = [] := List.eq_nil_of_length_eq_zero h0
    subst hx
    exact ⟨none, 0, hv, Rd.nil _ _, fun a ha => by cases ha⟩
  · refine ⟨some ⟨g, 0, none⟩, cap, hv, ?_, fun a ha => by simp only [Option.some.injEq] at ha; subst ha; exact hlt g (by rw [hv]; rfl)⟩
    have hc := World.ownsRow.cells h (g := g) (by rw [hv]; rfl)
    intro k x hk
    obtain ⟨h0, h1, h2, h3, h4⟩ := csL_get hk
    refine ⟨g, 0, rfl, ?_⟩
    have e := fun j => addr_add g 0 j
    exact ⟨by have := hc _ _ h0; rw [e] at this; exact this, by have := hc _ _ h1; rw [e] at this; exact this, by have := hc _ _ h2; rw [e] at this; exact this, by have := hc _ _ h3; rw [e] at this; exact this, by have := hc _ _ h4; rw [e] at this; exact this⟩
theorem Own5.kept {W W' : World} {base : Nat} {t : TypeId} {v : Value} {xs : List D5} {row : Option Nat} (h : Own5 W base t v xs) (hg : W.grownBy W' row) (hne : v.ownBlock = none ∨ v.ownBlock ≠ row) : Own5 W' base t v xs := World.ownsRow.kept h hg hne
theorem Own5.mono {W W' : World} {base : Nat} {t : TypeId} {v : Value} {xs : List D5} (h : Own5 W base t v xs) (hb : Below W.heap.size W W') : Own5 W' base t v xs :=
  h.kept (row := none) (grown_below hb) (by cases v.ownBlock <;> simp)
theorem Own5.far {W : World} {base : Nat} {t : TypeId} {v : Value} {xs : List D5} (h : Own5 W base t v xs) {p : Addr} (hp : p.block < base) (u : Value) : Own5 (W.setCell p u) base t v xs := ownsRow_setCell_below h hp u
theorem Own5.drew {W : World} {base : Nat} {t : TypeId} {v : Value} {xs : List D5} (h : Own5 W base t v xs) : Own5 W.drew base t v xs := h
theorem Own5.snoc {W' : World} {base : Nat} {t : TypeId} {v' : Value} {xs : List D5} {n : Nat} {x : D5} (hn : xs.length = n) (h : W'.ownsRow base t 5 v' (n + 1) (csL xs ++ x.cs)) : Own5 W' base t v' (xs ++ [x]) := by
  unfold Own5
  rw [csL_app, List.length_append, hn]
  have : csL [x] = x.cs := by simp [csL]
  rw [this]
  exact h
end Go.Proofs.Ytofclfgaekjonaa
namespace Go.Proofs.Ytofclfgaekjonaa
open Go.RowKit RM
set_option linter.unusedVariables false
set_option linter.unusedSimpArgs false
attribute [local irreducible] World.setCell

theorem infoD : (Try.prog.info? 99).map (fun i => (i.zero, i.size, i.bytes)) = some (some (.agg #[.int .i64 0, .int .i64 0, .int .i64 0, .int .i64 0, .int .i64 0]), 5, 40) := by kernel_rfl
theorem mkD (n : Nat) (hn : n ≤ 1048576) (w : World) : (Instr.makeSlice 28 (.int .i64 (n : Int)) (.int .i64 (n : Int))).run Try.prog w = .ok (.slice (some ⟨w.heap.size, 0, none⟩) n n) (w.alloc (.cells (csL (List.replicate n z5)).toArray 99)) := by
  obtain ⟨i0, hi, hz0, hz1, hz2⟩ := info_parts infoD
  have := run_make (P := Try.prog) w 28 99 i0 _ Try.underlying28 hi hz0 .i64 .i64 n n (by omega) (Int.le_refl _) (by rw [hz2]; omega) (by omega)
  rw [this, hz1]
  simp only [Int.toNat_natCast, Value.cells, madeA]

end Go.Proofs.Ytofclfgaekjonaa
namespace Go.Proofs.Ytofclfgaekjonaa
open Go.RowKit RM
set_option linter.unusedVariables false
set_option linter.unusedSimpArgs false
attribute [local irreducible] World.setCell

end Go.Proofs.Ytofclfgaekjonaa
namespace Go.Proofs.Ytofclfgaekjonaa
open Go.RowKit RM
set_option linter.unusedVariables false
set_option linter.unusedSimpArgs false
attribute [local irreducible] World.setCell

/-- the value of a matrix; one and whether there is one -/
abbrev mv (r c : Int) (A : Option Addr) (n cp : Nat) : Value := .agg #[.int .i64 r, .int .i64 c, .slice A n cp]
abbrev mt (r c : Int) (A : Option Addr) (n cp : Nat) (ok : Bool) : Value := .tuple #[mv r c A n cp, .bool ok]

end Go.Proofs.Ytofclfgaekjonaa
namespace Go.Proofs.Ytofclfgaekjonaa
open Go.RowKit RM
set_option linter.unusedVariables false
set_option linter.unusedSimpArgs false
attribute [local irreducible] World.setCell

/-- all numbers are valid -/
def allB (xs : List D5) : Bool := xs.all D5.ok
/-- a dimension: a power of two from 1 to 32 -/
def dimB (n : Int) : Bool := n == 1 || n == 2 || n == 4 || n == 8 || n == 16 || n == 32
theorem dimB_cases {n : Int} (h : dimB n = true) : n = 1 ∨ n = 2 ∨ n = 4 ∨ n = 8 ∨ n = 16 ∨ n = 32 := by
  unfold dimB at h; simpa [or_assoc] using h
/-- a matrix that is valid -/
def okM (r c : Int) (n : Nat) (xs : List D5) : Bool := dimB r && dimB c && decide ((n : Int) = r * c) && allB xs
theorem okM_iff {r c : Int} {n : Nat} {xs : List D5} : okM r c n xs = true ↔ dimB r = true ∧ dimB c = true ∧ (n : Int) = r * c ∧ allB xs = true := by
  unfold okM; simp [and_assoc]
theorem prod_bd {r c : Int} (hr : dimB r = true) (hc : dimB c = true) : 1 ≤ r ∧ r ≤ 32 ∧ 1 ≤ c ∧ c ≤ 32 ∧ 1 ≤ r * c ∧ r * c ≤ 1024 := by
  rcases dimB_cases hr with rfl | rfl | rfl | rfl | rfl | rfl <;> rcases dimB_cases hc with rfl | rfl | rfl | rfl | rfl | rfl <;> decide
theorem all_get {xs : List D5} (h : allB xs = true) {k : Nat} {x : D5} (hx : xs[k]? = some x) : x.ok = true := List.all_eq_true.1 h x (List.mem_of_getElem? hx)
theorem all_not {xs : List D5} {k : Nat} {x : D5} (hx : xs[k]? = some x) (h : x.ok = false) : allB xs = false := by
  cases hq : allB xs
  · rfl
  · rw [all_get hq hx] at h; cases h
theorem take_all {xs : List D5} {j : Nat} {x : D5} (hx : xs[j]? = some x) (h : allB (xs.take j) = true) (hk : x.ok = true) : allB (xs.take (j + 1)) = true := by
  have hj := (List.getElem?_eq_some_iff.1 hx).1
  have hv := (List.getElem?_eq_some_iff.1 hx).2
  unfold allB at h ⊢
  rw [List.take_succ_eq_append_getElem hj, hv, List.all_append, h]
  simp [hk]
theorem id_t {x : D5} (h : x.ok = true) (w : World) : Calls Try.prog 71 #[x.v] w fun ee w' => ee = .returned (.bool true) ∧ Below w.heap.size w w' := by
  obtain ⟨a, b, c, d, e'⟩ := x
  obtain ⟨e, h1, h2⟩ := ok_nat h
  dsimp only at h1 h2
  subst h1
  exact ivd_v w h2
theorem id_f {x : D5} (h : x.ok = false) (w : World) : Calls Try.prog 71 #[x.v] w fun ee w' => ee = .returned (.bool false) ∧ Below w.heap.size w w' := by
  obtain ⟨a, b, c, d, e⟩ := x
  exact ivd_no w (by unfold D5.ok at h; exact h)

set_option maxRecDepth 100000 in
set_option maxHeartbeats 8000000 in
theorem dm_i (n : Int) (w : World) :
    Calls Try.prog 110 #[.int .i64 n] w fun ee w' => ee = .returned (.bool (dimB n)) ∧ Below w.heap.size w w' := by
  by_cases h0 : 1 ≤ n
  · by_cases h1 : n ≤ 32
    · have : n = 1 ∨ n = 2 ∨ n = 3 ∨ n = 4 ∨ n = 5 ∨ n = 6 ∨ n = 7 ∨ n = 8 ∨ n = 9 ∨ n = 10 ∨ n = 11 ∨ n = 12 ∨ n = 13 ∨ n = 14 ∨ n = 15 ∨ n = 16 ∨ n = 17 ∨ n = 18 ∨ n = 19 ∨ n = 20 ∨ n = 21 ∨ n = 22 ∨ n = 23 ∨ n = 24 ∨ n = 25 ∨ n = 26 ∨ n = 27 ∨ n = 28 ∨ n = 29 ∨ n = 30 ∨ n = 31 ∨ n = 32 := by omega
      rcases this with rfl | rfl | rfl | rfl | rfl | rfl | rfl | rfl | rfl | rfl | rfl | rfl | rfl | rfl | rfl | rfl | rfl | rfl | rfl | rfl | rfl | rfl | rfl | rfl | rfl | rfl | rfl | rfl | rfl | rfl | rfl | rfl
      all_goals
        clear h0 h1
        go_enter Try.func110, Try.ntmps110
        go_wp2_with (fail)
        go_ret
        exact ⟨rfl, by (repeat' (first | (with_reducible exact Below.refl _ _) | (with_reducible assumption) | (with_reducible refine Below.alloc ?_ ?_ _) | (with_reducible refine Below.drew ?_) | (with_reducible refine below_drewN ?_ _) | (with_reducible refine Below.setCell ?_ ?_ _) | (with_reducible refine chain ?_ (by assumption) ?_) | omega | (simp; done) | (simp; omega)))⟩
    · have hd : dimB n = false := by unfold dimB; simp; omega
      rw [hd]
      have h2 : decide (n ≤ 32) = false := by simp; omega
      go_enter Try.func110, Try.ntmps110
      go_wp2_with (fail)
      go_ret
      exact ⟨rfl, by (repeat' (first | (with_reducible exact Below.refl _ _) | (with_reducible assumption) | (with_reducible refine Below.alloc ?_ ?_ _) | (with_reducible refine Below.drew ?_) | (with_reducible refine below_drewN ?_ _) | (with_reducible refine Below.setCell ?_ ?_ _) | (with_reducible refine chain ?_ (by assumption) ?_) | omega | (simp; done) | (simp; omega)))⟩
  · have hd : dimB n = false := by unfold dimB; simp; omega
    rw [hd]
    have h2 : decide (1 ≤ n) = false := by simp; omega
    go_enter Try.func110, Try.ntmps110
    go_wp2_with (fail)
    go_ret
    exact ⟨rfl, by (repeat' (first | (with_reducible exact Below.refl _ _) | (with_reducible assumption) | (with_reducible refine Below.alloc ?_ ?_ _) | (with_reducible refine Below.drew ?_) | (with_reducible refine below_drewN ?_ _) | (with_reducible refine Below.setCell ?_ ?_ _) | (with_reducible refine chain ?_ (by assumption) ?_) | omega | (simp; done) | (simp; omega)))⟩
theorem dm_i_t {n : Int} (h : dimB n = true) (w : World) : Calls Try.prog 110 #[.int .i64 n] w fun ee w' => ee = .returned (.bool true) ∧ Below w.heap.size w w' := by
  have := dm_i n w; rw [h] at this; exact this
theorem dm_i_f {n : Int} (h : dimB n = false) (w : World) : Calls Try.prog 110 #[.int .i64 n] w fun ee w' => ee = .returned (.bool false) ∧ Below w.heap.size w w' := by
  have := dm_i n w; rw [h] at this; exact this

end Go.Proofs.Ytofclfgaekjonaa
namespace Go.Proofs.Ytofclfgaekjonaa
open Go.RowKit RM
set_option linter.unusedVariables false
set_option linter.unusedSimpArgs false
attribute [local irreducible] World.setCell

open GM
theorem divG {Q i r : Nat} (h : r < Q) : (i * Q + r) / Q = i ∧ (i * Q + r) % Q = r := by
  have hQ : 0 < Q := by omega
  rw [Nat.add_comm, Nat.add_mul_div_right _ _ hQ, Nat.add_mul_mod_self_right, Nat.div_eq_of_lt h, Nat.mod_eq_of_lt h, Nat.zero_add]; exact ⟨rfl, rfl⟩
/-- a power of w by a power of the square root of 2 -/
def cellD (m e : Nat) : D5 := ⟨(turn m one5).a, (turn m one5).b, (turn m one5).c, (turn m one5).d, (e : Int)⟩
/-- a cell by its code -/
def cellC (k : Nat) : D5 := if k = 0 then z5 else cellD ((k - 1) % 8) ((k - 1) / 8)
theorem cellC_at {m e : Nat} (h : m < 8) : cellC (1 + m + 8 * e) = cellD m e := by
  unfold cellC
  rw [if_neg (by omega), show (1 + m + 8 * e - 1) % 8 = m by omega, show (1 + m + 8 * e - 1) / 8 = e by omega]
/-- a cell of a column, of whose terms t are written -/
def cmF (F M : Nat → Nat → Nat) (e : Nat) : Nat → Nat → Nat → D5
  | 0, _, _ => z5
  | t + 1, c, r => if r = F t c then cellD (M t c) e else cmF F M e t c r
def gP (F M : Nat → Nat → Nat) (e D L j t q : Nat) : D5 := if q % D < j then cmF F M e L (q % D) (q / D) else if q % D = j then cmF F M e t (q % D) (q / D) else z5
theorem gP_0 (F M : Nat → Nat → Nat) (e D L n : Nat) : tab n (gP F M e D L 0 0) = List.replicate n z5 := by
  rw [tab_repl]
  refine tab_congr (fun q _ => ?_)
  unfold gP
  rw [if_neg (by omega)]
  split <;> rfl
theorem gP_set {F M : Nat → Nat → Nat} {e D L j t k n : Nat} (hj : j < D) (hk : k = F t j * D + j) (hkn : k < n) : (tab n (gP F M e D L j t)).set k (cellD (M t j) e) = tab n (gP F M e D L j (t + 1)) := by
  rw [tab_set hkn]
  have hd := divG (Q := D) (i := F t j) (r := j) hj
  rw [← hk] at hd
  refine tab_congr (fun q hq => ?_)
  by_cases e : q = k
  · subst e
    rw [if_pos rfl]
    unfold gP
    rw [hd.1, hd.2, if_neg (by omega), if_pos rfl]
    show _ = (if F t j = F t j then _ else _)
    rw [if_pos rfl]
  · rw [if_neg e]
    unfold gP
    by_cases h1 : q % D < j
    · rw [if_pos h1, if_pos h1]
    · rw [if_neg h1, if_neg h1]
      by_cases h2 : q % D = j
      · rw [if_pos h2, if_pos h2]
        show _ = (if q / D = F t (q % D) then _ else _)
        rw [if_neg]
        intro h3
        apply e
        have := Nat.div_add_mod q D
        rw [h3, h2, Nat.mul_comm] at this
        rw [hk]; exact this.symm
      · rw [if_neg h2, if_neg h2]
theorem gP_next (F M : Nat → Nat → Nat) (e D L j n : Nat) : tab n (gP F M e D L j L) = tab n (gP F M e D L (j + 1) 0) := by
  refine tab_congr (fun q _ => ?_)
  unfold gP
  by_cases h1 : q % D < j
  · rw [if_pos h1, if_pos (by omega)]
  · rw [if_neg h1]
    by_cases h2 : q % D = j
    · rw [if_pos h2, if_pos (by omega)]
    · rw [if_neg h2, if_neg (by omega)]
      split <;> rfl
theorem gP_all {F M : Nat → Nat → Nat} {e D L n : Nat} (hD : 0 < D) : tab n (gP F M e D L D 0) = tab n (fun q => cmF F M e L (q % D) (q / D)) := by
  refine tab_congr (fun q _ => ?_)
  unfold gP
  rw [if_pos (Nat.mod_lt _ hD)]
theorem pow_dim {n D : Nat} (h1 : 1 ≤ n) (h5 : n ≤ 5) (hD : D = 2 ^ n) : 2 ≤ D ∧ D ≤ 32 ∧ wrap64 ((2 : Int) ^ n) = (D : Int) ∧ IntKind.i64.wrap ((2 : Int) ^ n) = (D : Int) ∧ dimB (D : Int) = true := by
  have : n = 1 ∨ n = 2 ∨ n = 3 ∨ n = 4 ∨ n = 5 := by omega
  rcases this with rfl | rfl | rfl | rfl | rfl <;> subst hD <;> exact ⟨by decide, by decide, by decide +kernel, by decide +kernel, by decide⟩

end Go.Proofs.Ytofclfgaekjonaa
namespace Go.Proofs.Ytofclfgaekjonaa
open Go.RowKit RM
set_option linter.unusedVariables false
set_option linter.unusedSimpArgs false
/-- block b is just these cells -/
def Bx (W : World) (b : Nat) (t : TypeId) (cs : Array Value) : Prop := W.heap[b]? = some (.cells cs t (0, 0))
theorem Bx.lt {W : World} {b : Nat} {t : TypeId} {cs : Array Value} (h : Bx W b t cs) : b < W.heap.size := (Array.getElem?_eq_some_iff.1 h).1
theorem Bx.c {W : World} {b : Nat} {t : TypeId} {cs : Array Value} (h : Bx W b t cs) (i : Nat) {v : Value} (hv : cs[i]? = some v) : W.cell? ⟨b, i, none⟩ = some v := (cell_of_row W b i cs t (0, 0) h).trans hv
theorem Bx.f {W : World} {b : Nat} {t : TypeId} {cs : Array Value} (h : Bx W b t cs) (i : Nat) : W.frozen? ⟨b, i, none⟩ = false := frozen_of_row W b i cs t h
theorem Bx.new {W : World} {b : Nat} {t : TypeId} {cs : Array Value} (hb : b = W.heap.size) : Bx (W.alloc (.cells cs t)) b t cs := by subst hb; exact heap_alloc_new W _
theorem Bx.alloc {W : World} {b : Nat} {t : TypeId} {cs : Array Value} (h : Bx W b t cs) (o : Obj) : Bx (W.alloc o) b t cs := (Below.heap_alloc W o b h.lt).trans h
theorem Bx.drew {W : World} {b : Nat} {t : TypeId} {cs : Array Value} (h : Bx W b t cs) : Bx W.drew b t cs := h
theorem Bx.drewN {W : World} {b : Nat} {t : TypeId} {cs : Array Value} (h : Bx W b t cs) (n : Nat) : Bx (W.drewN n) b t cs := h
theorem Bx.far {W : World} {b : Nat} {t : TypeId} {cs : Array Value} (h : Bx W b t cs) {g o : Nat} {u : Value} (hp : b ≠ g) : Bx (W.setCell ⟨g, o, none⟩ u) b t cs := (Below.heap_setCell W _ u b hp).trans h
theorem Bx.set {W : World} {b : Nat} {t : TypeId} {cs cs' : Array Value} {i : Nat} {u : Value} (h : Bx W b t cs) (hc : cs' = cs.setIfInBounds i u) : Bx (W.setCell ⟨b, i, none⟩ u) b t cs' := by
  rw [hc]; exact heap_setCell_same W b i cs t u h
theorem Bx.mono {W W' : World} {b : Nat} {t : TypeId} {cs : Array Value} (h : Bx W b t cs) (hb : Below W.heap.size W W') : Bx W' b t cs := (hb.block b h.lt).trans h
theorem Bx.below {W W' : World} {B b : Nat} {t : TypeId} {cs : Array Value} (h : Bx W b t cs) (hb : Below B W W') (hB : b < B) : Bx W' b t cs := (hb.block b hB).trans h
theorem Bx.grown {W W' : World} {b : Nat} {t : TypeId} {cs : Array Value} {row : Option Nat} (h : Bx W b t cs) (hg : W.grownBy W' row) (hne : some b ≠ row) : Bx W' b t cs := (hg.block b h.lt hne).trans h
/-- behind a call that may set the model's failure -/
theorem Bx.badly {W W' : World} {b g o : Nat} {u : Value} {t : TypeId} {cs : Array Value} (h : Bx W b t cs) (hb : Below W.heap.size (W.setCell ⟨g, o, none⟩ u) W') (hne : b ≠ g) : Bx W' b t cs := (hb.block b h.lt).trans (h.far hne)
theorem Bx.bad {W W' : World} {g : Nat} {u v : Value} {t : TypeId} (h : Bx W g t #[v]) (hb : Below W.heap.size (W.setCell ⟨g, 0, none⟩ u) W') : Bx W' g t #[u] := (hb.block g h.lt).trans (h.set (cs' := #[u]) rfl)
end Go.Proofs.Ytofclfgaekjonaa
