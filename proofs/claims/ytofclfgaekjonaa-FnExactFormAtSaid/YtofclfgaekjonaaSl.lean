/- Slices of dyadic numbers in memory: read as a list; a block of the call's own known whole; stores of five cells. -/
import Derived.Test.YtofclfgaekjonaaMxD
import Derived.Laws.OwnMore
import Derived.Deep.AppendLies
import Derived.Deep.Draws
import Derived.Deep.LoopGhost
import Derived.Laws.CopyOwn
namespace Go.Proofs.Ytofclfgaekjonaa
open Go.RowKit RM
set_option linter.unusedVariables false
set_option linter.unusedSimpArgs false

theorem below_drewN {B : Nat} {a w : World} (h : Below B a w) (n : Nat) : Below B a (w.drewN n) := h.trans ⟨rfl, rfl, rfl, Nat.le_refl _, fun _ _ => rfl⟩
theorem cell_drewN {w : World} {a : Addr} (n : Nat) : (w.drewN n).cell? a = w.cell? a := rfl
def D5.cs (x : D5) : List Value := [.int .i64 x.a, .int .i64 x.b, .int .i64 x.c, .int .i64 x.d, .int .i64 x.e]
def csL : List D5 → List Value
  | [] => []
  | x :: xs => x.cs ++ csL xs
theorem csL_len (xs : List D5) : (csL xs).length = xs.length * 5 := by
  induction xs with
  | nil => rfl
  | cons x xs ih => simp only [csL, List.length_append, ih, D5.cs, List.length_cons, List.length_nil]; omega
theorem csL_app (xs ys : List D5) : csL (xs ++ ys) = csL xs ++ csL ys := by
  induction xs with
  | nil => rfl
  | cons x xs ih => simp only [List.cons_append, csL, ih, List.append_assoc]
theorem csL_get {xs : List D5} {k : Nat} {x : D5} (h : xs[k]? = some x) : (csL xs)[k * 5]? = some (.int .i64 x.a) ∧ (csL xs)[k * 5 + 1]? = some (.int .i64 x.b) ∧ (csL xs)[k * 5 + 2]? = some (.int .i64 x.c) ∧ (csL xs)[k * 5 + 3]? = some (.int .i64 x.d) ∧ (csL xs)[k * 5 + 4]? = some (.int .i64 x.e) := by
  induction xs generalizing k with
  | nil => simp at h
  | cons y ys ih =>
    cases k with
    | zero =>
      simp only [List.getElem?_cons_zero, Option.some.injEq] at h
      subst h
      exact ⟨rfl, rfl, rfl, rfl, rfl⟩
    | succ k =>
      obtain ⟨h0, h1, h2, h3, h4⟩ := ih (k := k) (by simpa using h)
      have e : (csL (y :: ys)) = y.cs ++ csL ys := rfl
      have hl : y.cs.length = 5 := rfl
      rw [e]
      refine ⟨?_, ?_, ?_, ?_, ?_⟩
      all_goals (rw [List.getElem?_append_right (by omega), hl])
      · rw [show (k + 1) * 5 - 5 = k * 5 by omega]; exact h0
      · rw [show (k + 1) * 5 + 1 - 5 = k * 5 + 1 by omega]; exact h1
      · rw [show (k + 1) * 5 + 2 - 5 = k * 5 + 2 by omega]; exact h2
      · rw [show (k + 1) * 5 + 3 - 5 = k * 5 + 3 by omega]; exact h3
      · rw [show (k + 1) * 5 + 4 - 5 = k * 5 + 4 by omega]; exact h4
theorem csL_set {xs : List D5} {k : Nat} (x : D5) (h : k < xs.length) : csL (xs.set k x) = (((((csL xs).set (k * 5) (.int .i64 x.a)).set (k * 5 + 1) (.int .i64 x.b)).set (k * 5 + 2) (.int .i64 x.c)).set (k * 5 + 3) (.int .i64 x.d)).set (k * 5 + 4) (.int .i64 x.e) := by
  induction xs generalizing k with
  | nil => simp at h
  | cons y ys ih =>
    cases k with
    | zero => rfl
    | succ k =>
      have := ih (k := k) (by simpa using h)
      rw [List.set_cons_succ]
      show y.cs ++ csL (ys.set k x) = _
      rw [this]
      have e : (csL (y :: ys)) = y.cs ++ csL ys := rfl
      have hl : y.cs.length = 5 := rfl
      rw [e]
      have hset : ∀ (l : List Value) (j : Nat) (u : Value), (y.cs ++ l).set (j + 5) u = y.cs ++ l.set j u := by
        intro l j u
        rw [List.set_append_right _ _ (by omega), hl]
        congr 2
      rw [show (k + 1) * 5 = k * 5 + 5 by omega, show k * 5 + 5 + 1 = k * 5 + 1 + 5 by omega, show k * 5 + 5 + 2 = k * 5 + 2 + 5 by omega, show k * 5 + 5 + 3 = k * 5 + 3 + 5 by omega, show k * 5 + 5 + 4 = k * 5 + 4 + 5 by omega]
      simp only [hset]

/-- five cells of a number at an offset of a block -/
structure Cx (W : World) (g o : Nat) (x : D5) : Prop where
  c0 : W.cell? ⟨g, o, none⟩ = some (.int .i64 x.a)
  c1 : W.cell? ⟨g, o + 1, none⟩ = some (.int .i64 x.b)
  c2 : W.cell? ⟨g, o + 2, none⟩ = some (.int .i64 x.c)
  c3 : W.cell? ⟨g, o + 3, none⟩ = some (.int .i64 x.d)
  c4 : W.cell? ⟨g, o + 4, none⟩ = some (.int .i64 x.e)
theorem Cx.lt {W : World} {g o : Nat} {x : D5} (h : Cx W g o x) : g < W.heap.size := World.block_lt_of_cell? W _ h.c0
theorem Cx.at_ {W W' : World} {g o : Nat} {x : D5} (h : Cx W g o x) (hb : W'.heap[g]? = W.heap[g]?) : Cx W' g o x :=
  ⟨(World.cell?_of_block (a := ⟨g, o, none⟩) hb).trans h.c0, (World.cell?_of_block (a := ⟨g, o + 1, none⟩) hb).trans h.c1, (World.cell?_of_block (a := ⟨g, o + 2, none⟩) hb).trans h.c2, (World.cell?_of_block (a := ⟨g, o + 3, none⟩) hb).trans h.c3, (World.cell?_of_block (a := ⟨g, o + 4, none⟩) hb).trans h.c4⟩
/-- a slice's address under which these numbers lie -/
def Rd (W : World) (A : Option Addr) (xs : List D5) : Prop := ∀ k x, xs[k]? = some x → ∃ g o, A = some ⟨g, o, none⟩ ∧ Cx W g (o + k * 5) x
theorem Rd.at_ {W W' : World} {A : Option Addr} {xs : List D5} (h : Rd W A xs) (hb : ∀ a, A = some a → W'.heap[a.block]? = W.heap[a.block]?) : Rd W' A xs := by
  intro k x hk
  obtain ⟨g, o, rfl, hc⟩ := h k x hk
  exact ⟨g, o, rfl, hc.at_ (hb _ rfl)⟩
theorem Rd.mono {W W' : World} {A : Option Addr} {xs : List D5} (h : Rd W A xs) (hb : Below W.heap.size W W') : Rd W' A xs := by
  intro k x hk
  obtain ⟨g, o, rfl, hc⟩ := h k x hk
  exact ⟨g, o, rfl, hc.at_ (hb.block g hc.lt)⟩
theorem Rd.nil (W : World) (A : Option Addr) : Rd W A [] := fun k x h => by simp at h
theorem Rd.sub {W : World} {g o : Nat} {xs : List D5} (h : Rd W (some ⟨g, o, none⟩) xs) (i : Nat) : Rd W (some ⟨g, o + i * 5, none⟩) (xs.drop i) := by
  intro k x hk
  rw [List.getElem?_drop] at hk
  obtain ⟨g', o', he, hc⟩ := h _ _ hk
  simp only [Option.some.injEq, Addr.mk.injEq, and_true] at he
  obtain ⟨rfl, rfl⟩ := he
  exact ⟨g, o + i * 5, rfl, by rw [Nat.add_assoc, ← Nat.add_mul]; exact hc⟩
theorem Rd.take {W : World} {A : Option Addr} {xs : List D5} (h : Rd W A xs) (n : Nat) : Rd W A (xs.take n) := by
  intro k x hk
  rw [List.getElem?_take] at hk
  split at hk
  · exact h _ _ hk
  · cases hk

/-- a block of the call's own that holds these numbers and nothing else -/
def Bk (W : World) (g : Nat) (t : TypeId) (xs : List D5) : Prop := W.heap[g]? = some (.cells (csL xs).toArray t (0, 0))
theorem Bk.lt {W : World} {g : Nat} {t : TypeId} {xs : List D5} (h : Bk W g t xs) : g < W.heap.size := (Array.getElem?_eq_some_iff.1 h).1
theorem Bk.cx {W : World} {g : Nat} {t : TypeId} {xs : List D5} (h : Bk W g t xs) {k : Nat} {x : D5} (hk : xs[k]? = some x) : Cx W g (k * 5) x := by
  obtain ⟨h0, h1, h2, h3, h4⟩ := csL_get hk
  have hc := fun i => cell_of_row W g i _ t (0, 0) h
  exact ⟨by rw [hc]; simpa using h0, by rw [hc]; simpa using h1, by rw [hc]; simpa using h2, by rw [hc]; simpa using h3, by rw [hc]; simpa using h4⟩
theorem Bk.rd {W : World} {g : Nat} {t : TypeId} {xs : List D5} (h : Bk W g t xs) : Rd W (some ⟨g, 0, none⟩) xs := fun k x hk => ⟨g, 0, rfl, by rw [Nat.zero_add]; exact h.cx hk⟩
theorem Bk.fr {W : World} {g : Nat} {t : TypeId} {xs : List D5} (h : Bk W g t xs) (i : Nat) : W.frozen? ⟨g, i, none⟩ = false := frozen_of_row W g i _ t h
theorem Bk.mono {W W' : World} {g : Nat} {t : TypeId} {xs : List D5} (h : Bk W g t xs) (hb : Below W.heap.size W W') : Bk W' g t xs := (hb.block g h.lt).trans h
theorem Bk.at_ {W W' : World} {g : Nat} {t : TypeId} {xs : List D5} (h : Bk W g t xs) (hb : W'.heap[g]? = W.heap[g]?) : Bk W' g t xs := hb.trans h
theorem Bk.alloc {W : World} {g : Nat} {t : TypeId} {xs : List D5} (h : Bk W g t xs) (o : Obj) : Bk (W.alloc o) g t xs := (Below.heap_alloc W o g h.lt).trans h
theorem Bk.far {W : World} {g : Nat} {t : TypeId} {xs : List D5} (h : Bk W g t xs) {p : Addr} (hp : g ≠ p.block) (u : Value) : Bk (W.setCell p u) g t xs := (Below.heap_setCell W p u g hp).trans h
/-- the five stores of a number -/
def set5 (W : World) (g o : Nat) (x : D5) : World := ((((W.setCell ⟨g, o, none⟩ (.int .i64 x.a)).setCell ⟨g, o + 1, none⟩ (.int .i64 x.b)).setCell ⟨g, o + 2, none⟩ (.int .i64 x.c)).setCell ⟨g, o + 3, none⟩ (.int .i64 x.d)).setCell ⟨g, o + 4, none⟩ (.int .i64 x.e)
theorem Bk.set {W : World} {g : Nat} {t : TypeId} {xs : List D5} (h : Bk W g t xs) {k : Nat} (x : D5) (hk : k < xs.length) : Bk (set5 W g (k * 5) x) g t (xs.set k x) := by
  have h0 : W.heap[g]? = some (.cells (csL xs).toArray t (0, 0)) := h
  have h1 := heap_setCell_same _ g (k * 5) _ t (.int .i64 x.a) h0
  have h2 := heap_setCell_same _ g (k * 5 + 1) _ t (.int .i64 x.b) h1
  have h3 := heap_setCell_same _ g (k * 5 + 2) _ t (.int .i64 x.c) h2
  have h4 := heap_setCell_same _ g (k * 5 + 3) _ t (.int .i64 x.d) h3
  have h5 := heap_setCell_same _ g (k * 5 + 4) _ t (.int .i64 x.e) h4
  unfold Bk
  rw [csL_set x hk]
  refine h5.trans ?_
  simp only [List.setIfInBounds_toArray]
theorem set5_below {B : Nat} {a W : World} {g o : Nat} {x : D5} (h : Below B a W) (hg : B ≤ g) : Below B a (set5 W g o x) := ((((h.setCell (p := ⟨g, o, none⟩) hg _).setCell (p := ⟨g, o + 1, none⟩) hg _).setCell (p := ⟨g, o + 2, none⟩) hg _).setCell (p := ⟨g, o + 3, none⟩) hg _).setCell (p := ⟨g, o + 4, none⟩) hg _
theorem set5_far {W : World} {g o k : Nat} {x : D5} (h : k ≠ g) : (set5 W g o x).heap[k]? = W.heap[k]? := by
  unfold set5
  rw [Below.heap_setCell _ _ _ _ h, Below.heap_setCell _ _ _ _ h, Below.heap_setCell _ _ _ _ h, Below.heap_setCell _ _ _ _ h, Below.heap_setCell _ _ _ _ h]
theorem set5_size {W : World} {g o : Nat} {x : D5} : (set5 W g o x).heap.size = W.heap.size := by simp [set5]
theorem madeL (n : Nat) : (madeCells #[.int .i64 0, .int .i64 0, .int .i64 0, .int .i64 0, .int .i64 0] (n * 5)).toList = csL (List.replicate n z5) := by
  apply List.ext_getElem?
  intro j
  by_cases hj : j < n * 5
  · obtain ⟨q, r, rfl, hr⟩ : ∃ q r, j = q * 5 + r ∧ r < 5 := ⟨j / 5, j % 5, by omega, Nat.mod_lt _ (by omega)⟩
    have h5 : (List.replicate n z5)[q]? = some z5 := by rw [List.getElem?_replicate]; rw [if_pos (by omega)]
    obtain ⟨h0, h1, h2, h3, h4⟩ := csL_get h5
    have hm : (madeCells #[Value.int .i64 0, .int .i64 0, .int .i64 0, .int .i64 0, .int .i64 0] (n * 5)).toList[q * 5 + r]? = some (.int .i64 0) := by
      simp only [madeCells, Array.toList_map, Array.toList_range, List.getElem?_map, List.getElem?_range hj, Option.map_some]
      show some ((#[Value.int .i64 0, .int .i64 0, .int .i64 0, .int .i64 0, .int .i64 0] : Array Value)[(q * 5 + r) % 5]!) = _
      rw [show (q * 5 + r) % 5 = r by omega]
      have : r = 0 ∨ r = 1 ∨ r = 2 ∨ r = 3 ∨ r = 4 := by omega
      rcases this with k | k | k | k | k <;> rw [k] <;> rfl
    rw [hm]
    have : r = 0 ∨ r = 1 ∨ r = 2 ∨ r = 3 ∨ r = 4 := by omega
    rcases this with k | k | k | k | k
    · rw [k]; exact h0.symm
    · rw [k]; exact h1.symm
    · rw [k]; exact h2.symm
    · rw [k]; exact h3.symm
    · rw [k]; exact h4.symm
  · have h1 : (csL (List.replicate n z5)).length = n * 5 := by rw [csL_len, List.length_replicate]
    rw [List.getElem?_eq_none (by rw [Array.length_toList, size_madeCells]; omega), List.getElem?_eq_none (by omega)]
theorem madeA (n : Nat) : madeCells #[.int .i64 0, .int .i64 0, .int .i64 0, .int .i64 0, .int .i64 0] (n * 5) = (csL (List.replicate n z5)).toArray := by
  rw [← madeL]
theorem Bk.made (W : World) (t : TypeId) (n : Nat) : Bk (W.alloc (.cells (csL (List.replicate n z5)).toArray t)) W.heap.size t (List.replicate n z5) := heap_alloc_new W _
theorem addr_add (g o j : Nat) : (⟨g, o, none⟩ : Addr).add j = ⟨g, o + j, none⟩ := by unfold Addr.add; split <;> simp_all
theorem csL_at {W : World} {g o : Nat} {ys : List D5} (h : Rd W (some ⟨g, o, none⟩) ys) : ∀ j v, (csL ys)[j]? = some v → W.cell? ((⟨g, o, none⟩ : Addr).add j) = some v := by
  intro j v hj
  have hl : j < ys.length * 5 := by
    have := (List.getElem?_eq_some_iff.1 hj).1
    rwa [csL_len] at this
  have hk : j / 5 < ys.length := by omega
  have hx : ys[j / 5]? = some ys[j / 5] := List.getElem?_eq_getElem hk
  obtain ⟨g', o', he, hc⟩ := h _ _ hx
  simp only [Option.some.injEq, Addr.mk.injEq, and_true] at he
  obtain ⟨rfl, rfl⟩ := he
  obtain ⟨h0, h1, h2, h3, h4⟩ := csL_get hx
  rw [addr_add]
  have : j % 5 = 0 ∨ j % 5 = 1 ∨ j % 5 = 2 ∨ j % 5 = 3 ∨ j % 5 = 4 := by omega
  rcases this with k | k | k | k | k
  · have e : j = j / 5 * 5 := by omega
    rw [e] at hj ⊢; rw [h0] at hj; rw [← hj]; exact hc.c0
  · have e : j = j / 5 * 5 + 1 := by omega
    rw [e] at hj ⊢; rw [h1] at hj; rw [← hj]; exact hc.c1
  · have e : j = j / 5 * 5 + 2 := by omega
    rw [e] at hj ⊢; rw [h2] at hj; rw [← hj]; exact hc.c2
  · have e : j = j / 5 * 5 + 3 := by omega
    rw [e] at hj ⊢; rw [h3] at hj; rw [← hj]; exact hc.c3
  · have e : j = j / 5 * 5 + 4 := by omega
    rw [e] at hj ⊢; rw [h4] at hj; rw [← hj]; exact hc.c4
theorem csL_one (xs : List D5) : ∀ v ∈ csL xs, v.oneCell' = true := by
  induction xs with
  | nil => intro v h; cases h
  | cons x xs ih =>
    intro v h
    rcases List.mem_append.1 h with h | h
    · simp only [D5.cs, List.mem_cons, List.not_mem_nil, or_false] at h
      rcases h with rfl | rfl | rfl | rfl | rfl <;> rfl
    · exact ih v h
theorem csL_take (xs : List D5) (n : Nat) : csL (xs.take n) = (csL xs).take (n * 5) := by
  induction xs generalizing n with
  | nil => simp [csL]
  | cons x xs ih =>
    cases n with
    | zero => simp [csL]
    | succ n =>
      rw [List.take_succ_cons]
      show x.cs ++ csL (xs.take n) = _
      rw [ih]
      show _ = (x.cs ++ csL xs).take ((n + 1) * 5)
      rw [List.take_append, show x.cs.length = 5 from rfl, show (n + 1) * 5 - 5 = n * 5 by omega, List.take_of_length_le (l := x.cs) (by show 5 ≤ _; omega)]
theorem csL_drop (xs : List D5) (n : Nat) : csL (xs.drop n) = (csL xs).drop (n * 5) := by
  induction xs generalizing n with
  | nil => simp [csL]
  | cons x xs ih =>
    cases n with
    | zero => simp [csL]
    | succ n =>
      rw [List.drop_succ_cons, ih]
      show _ = (x.cs ++ csL xs).drop ((n + 1) * 5)
      rw [List.drop_append, show x.cs.length = 5 from rfl, show (n + 1) * 5 - 5 = n * 5 by omega, List.drop_of_length_le (l := x.cs) (by show 5 ≤ _; omega), List.nil_append]

/-- copy of numbers into a block of the call's own -/
theorem run_copy5 {P : Program} (w : World) (dT sT ty elem : TypeId) (g o dLen dCap : Nat) (a : Addr) (sLen sCap m : Nat) (cur : Array Value) (t : TypeId) (cs : List Value)
    (hu : P.underlying dT = some (.slice elem)) (hs : (P.info? elem).map (·.size) = some 5)
    (hg : w.heap[g]? = some (.cells cur t (0, 0))) (hm : m = Nat.min sLen dLen) (hn : cs.length = m * 5)
    (hsrc : ∀ j v, cs[j]? = some v → w.cell? (a.add j) = some v) (hfit : o + cs.length ≤ cur.size) (h1 : ∀ v ∈ cs, v.oneCell' = true) :
    (Builtin.copy_ #[dT, sT] ty #[.slice (some ⟨g, o, none⟩) dLen dCap, .slice (some a) sLen sCap]).run P w =
      .ok (goInt m) (w.setRow g (cur.toList.take o ++ cs ++ cur.toList.drop (o + cs.length)).toArray) := by
  have hl := run_loadCells_list (P := P) w a cs hsrc
  have hst := run_storeCells_at P g o t cs 0 cur w hg (by simpa using hfit) h1
  cases hq : P.info? elem with
  | none => simp [hq] at hs
  | some i =>
    have hi : i.size = 5 := by simpa [hq] using hs
    rw [hn] at hl
    simp [Builtin.copy_, run_underlying hu, Builtin.lenOf, Builtin.firstCells, sizeOf, typeInfo, hq, hi, ← hm, hl, hst]
theorem wpList_copy5 {P : Program} {w : World} {ops : Array Oper} {rest : List Oper} {o : Oper} {a : Act} {Q : Exit → Act → World → Prop} (hgd : o.guard = none) (d s : Operand) (dT sT : TypeId)
    (ho : o.op = .call { callee := .builtin .copy, args := #[d, s], argTypes := #[dT, sT] }) (elem : TypeId) (hu : P.underlying dT = some (.slice elem)) (hsz : (P.info? elem).map (·.size) = some 5)
    (g k off m dCap : Nat) (sg so sCap : Nat) (hd : a.eval d = .slice (some ⟨g, off, none⟩) m dCap) (hs : a.eval s = .slice (some ⟨sg, so, none⟩) m sCap) (hoff : off = k * 5)
    (cur ys : List D5) (t : TypeId) (hg : Bk w g t cur) (hr : Rd w (some ⟨sg, so, none⟩) ys) (hl : ys.length = m) (hfit : k + m ≤ cur.length) (B : Nat) (w0 : World) (hb : Below B w0 w) (hBg : B ≤ g)
    (h : ∀ w', Bk w' g t (cur.take k ++ (ys ++ cur.drop (k + m))) → Below B w0 w' → (∀ j, j ≠ g → w'.heap[j]? = w.heap[j]?) → w'.heap.size = w.heap.size → wpList P ops Q rest (a.put o.dst (goInt m)) w') :
    wpList P ops Q (o :: rest) a w := by
  refine wpList_plain hgd fun K hK => ?_
  subst hoff
  have hrun := run_copy5 (P := P) w dT sT o.type elem g (k * 5) m dCap ⟨sg, so, none⟩ m sCap m _ t (csL ys) hu hsz hg (Nat.min_self m).symm (by rw [csL_len, hl]) (csL_at hr) (by rw [csL_len, List.size_toArray, csL_len]; omega) (csL_one ys)
  have hbk : Bk (w.setRow g (((csL cur).toArray.toList.take (k * 5) ++ csL ys ++ (csL cur).toArray.toList.drop (k * 5 + (csL ys).length)).toArray)) g t (cur.take k ++ (ys ++ cur.drop (k + m))) := by
    unfold Bk
    rw [setRow_heap w g _ _ t _ hg, csL_app, csL_app, csL_take, csL_drop, csL_len, hl, ← Nat.add_mul, List.append_assoc]
  have hK' := hK _ _ (h _ hbk (below_setRow hb hBg _) (fun j hj => setRow_other w g j _ hj) (by simp [World.setRow]))
  unfold Oper.wp
  simp only [execOp, ho, resolve, invoke, builtin, hd, hs, List.map_toArray, List.map_cons, List.map_nil, Sem.run_bind, Sem.run_pure, Result.andThen_ok, hrun]
  exact hK'
/-- read below a block number; owned from a block number on -/
def RdB (W : World) (B : Nat) (A : Option Addr) (xs : List D5) : Prop := ∀ k x, xs[k]? = some x → ∃ g o, A = some ⟨g, o, none⟩ ∧ g < B ∧ Cx W g (o + k * 5) x
theorem Rd.b {W : World} {A : Option Addr} {xs : List D5} (h : Rd W A xs) {B : Nat} (hB : W.heap.size ≤ B) : RdB W B A xs := fun k x hk => by
  obtain ⟨g, o, e, hc⟩ := h k x hk
  exact ⟨g, o, e, Nat.lt_of_lt_of_le hc.lt hB, hc⟩
theorem RdB.rd {W : World} {B : Nat} {A : Option Addr} {xs : List D5} (h : RdB W B A xs) : Rd W A xs := fun k x hk => by
  obtain ⟨g, o, e, _, hc⟩ := h k x hk
  exact ⟨g, o, e, hc⟩
theorem RdB.up {W : World} {B B' : Nat} {A : Option Addr} {xs : List D5} (h : RdB W B A xs) (hB : B ≤ B') : RdB W B' A xs := fun k x hk => by
  obtain ⟨g, o, e, hg, hc⟩ := h k x hk
  exact ⟨g, o, e, by omega, hc⟩
theorem RdB.keep {W W' : World} {B : Nat} {A : Option Addr} {xs : List D5} (h : RdB W B A xs) (hk : ∀ g, g < B → g < W.heap.size → W'.heap[g]? = W.heap[g]?) : RdB W' B A xs := fun k x hx => by
  obtain ⟨g, o, e, hg, hc⟩ := h k x hx
  exact ⟨g, o, e, hg, hc.at_ (hk g hg hc.lt)⟩
theorem RdB.mono {W W' : World} {B : Nat} {A : Option Addr} {xs : List D5} (h : RdB W B A xs) (hb : Below W.heap.size W W') : RdB W' B A xs := h.keep fun g _ hg => hb.block g hg
theorem RdB.grown {W W' : World} {B : Nat} {A : Option Addr} {xs : List D5} {row : Option Nat} (h : RdB W B A xs) (hg : W.grownBy W' row) (hr : ∀ r, row = some r → B ≤ r) : RdB W' B A xs := h.keep fun g h1 h2 => hg.block g h2 (fun e => by have := hr g e.symm; omega)
def Ow (W : World) (B : Nat) (t : TypeId) (A : Option Addr) (xs : List D5) : Prop := (xs = [] ∧ A = none) ∨ ∃ g, A = some ⟨g, 0, none⟩ ∧ B ≤ g ∧ Bk W g t xs
theorem Ow.rd {W : World} {B : Nat} {t : TypeId} {A : Option Addr} {xs : List D5} (h : Ow W B t A xs) : Rd W A xs := by
  rcases h with ⟨rfl, _⟩ | ⟨g, rfl, _, h⟩
  · exact Rd.nil _ _
  · exact h.rd
theorem Ow.mono {W W' : World} {B : Nat} {t : TypeId} {A : Option Addr} {xs : List D5} (h : Ow W B t A xs) (hb : Below W.heap.size W W') : Ow W' B t A xs := by
  rcases h with h | ⟨g, rfl, h1, h2⟩
  · exact Or.inl h
  · exact Or.inr ⟨g, rfl, h1, h2.mono hb⟩
theorem Ow.grown {W W' : World} {B : Nat} {t : TypeId} {A : Option Addr} {xs : List D5} {row : Option Nat} (h : Ow W B t A xs) (hg : W.grownBy W' row) (hr : ∀ r, row = some r → r < B) : Ow W' B t A xs := by
  rcases h with h | ⟨g, rfl, h1, h2⟩
  · exact Or.inl h
  · exact Or.inr ⟨g, rfl, h1, h2.at_ (hg.block g h2.lt (fun e => by have := hr g e.symm; omega))⟩
theorem Ow.low {W : World} {B : Nat} {t : TypeId} {A : Option Addr} {xs : List D5} (h : Ow W B t A xs) : ∀ a, A = some a → B ≤ a.block := by
  intro a ha
  rcases h with ⟨_, rfl⟩ | ⟨g, rfl, h1, _⟩
  · cases ha
  · simp only [Option.some.injEq] at ha; subst ha; exact h1
theorem Ow.dn {W : World} {B B' : Nat} {t : TypeId} {A : Option Addr} {xs : List D5} (h : Ow W B t A xs) (hB : B' ≤ B) : Ow W B' t A xs := by
  rcases h with h | ⟨g, rfl, h1, h2⟩
  · exact Or.inl h
  · exact Or.inr ⟨g, rfl, Nat.le_trans hB h1, h2⟩
theorem Bk.ow {W : World} {g B : Nat} {t : TypeId} {xs : List D5} (h : Bk W g t xs) (hB : B ≤ g) : Ow W B t (some ⟨g, 0, none⟩) xs := Or.inr ⟨g, rfl, hB, h⟩
/-- the block of a slice's address -/
def blk (A : Option Addr) : Option Nat := A.map (·.block)
theorem Ow.row {W : World} {B : Nat} {t : TypeId} {A : Option Addr} {xs : List D5} (h : Ow W B t A xs) : ∀ r, blk A = some r → B ≤ r ∧ r < W.heap.size := by
  intro r hr
  rcases h with ⟨_, rfl⟩ | ⟨g, rfl, h1, h2⟩
  · cases hr
  · simp only [blk, Option.map_some, Option.some.injEq] at hr
    subst hr
    exact ⟨h1, h2.lt⟩
theorem grown_trans {a b c : World} {row : Option Nat} (h : a.grownBy b row) (k : b.grownBy c row) : a.grownBy c row :=
  ⟨k.os.trans h.os, k.tape.trans h.tape, k.output.trans h.output, Nat.le_trans h.size k.size, fun i hi hr => (k.block i (Nat.lt_of_lt_of_le hi h.size) hr).trans (h.block i hi hr)⟩
theorem grown_below {a b : World} {row : Option Nat} (h : Below a.heap.size a b) : a.grownBy b row := ⟨h.os, h.tape, h.output, h.size, fun k hk _ => h.block k hk⟩
theorem grown_set5 {a b : World} {g o : Nat} {x : D5} (h : a.grownBy b (some g)) : a.grownBy (set5 b g o x) (some g) :=
  have hb := set5_below (x := x) (o := o) (Below.refl g b) (Nat.le_refl g)
  grown_trans h ⟨hb.os, hb.tape, hb.output, hb.size, fun k _ hk => set5_far (fun e => hk (by rw [e]))⟩
theorem fill_set {xs : List D5} {j n : Nat} {x : D5} (hn : xs.length = n) (hx : xs[j]? = some x) : (xs.take j ++ List.replicate (n - j) z5).set j x = xs.take (j + 1) ++ List.replicate (n - (j + 1)) z5 := by
  have hj : j < xs.length := (List.getElem?_eq_some_iff.1 hx).1
  have hv := (List.getElem?_eq_some_iff.1 hx).2
  have hl : (xs.take j).length = j := by rw [List.length_take]; omega
  rw [List.set_append_right _ _ (by omega), hl, Nat.sub_self, show n - j = (n - (j + 1)) + 1 by omega, List.replicate_succ, List.set_cons_zero, List.take_succ_eq_append_getElem hj, hv, List.append_assoc]
  rfl
theorem fill_at {xs : List D5} {j n : Nat} (hn : xs.length = n) (hj : j < n) : (xs.take j ++ List.replicate (n - j) z5)[j]? = some z5 := by
  rw [List.getElem?_append_right (by rw [List.length_take, hn]; omega), List.length_take, hn, Nat.min_eq_left (Nat.le_of_lt hj), Nat.sub_self, List.getElem?_replicate, if_pos (by omega)]
/-- the marks that a law writes -/
def mk1 (k : Int) (j : Nat) : D5 := ⟨k + 5 * (j : Int), k + 5 * (j : Int) + 1, k + 5 * (j : Int) + 1 + 1, k + 5 * (j : Int) + 1 + 1 + 1, k + 5 * (j : Int) + 1 + 1 + 1 + 1⟩
def mks (k : Int) (n : Nat) : List D5 := (List.range n).map (mk1 k)
theorem mks_len (k : Int) (n : Nat) : (mks k n).length = n := by simp [mks]
theorem mks_succ (k : Int) (n : Nat) : mks k (n + 1) = mks k n ++ [mk1 k n] := by simp [mks, List.range_succ]
theorem mks_get (k : Int) {n j : Nat} (h : j < n) : (mks k n)[j]? = some (mk1 k j) := by simp [mks, h]
theorem mks_set {xs : List D5} {k : Int} {j : Nat} (hj : j < xs.length) : (mks k j ++ xs.drop j).set j (mk1 k j) = mks k (j + 1) ++ xs.drop (j + 1) := by
  rw [List.set_append_right _ _ (by rw [mks_len]; omega), mks_len, Nat.sub_self, List.drop_eq_getElem_cons hj, List.set_cons_zero, mks_succ, List.append_assoc]
  rfl
theorem mks_at {xs : List D5} {k : Int} {j : Nat} {x : D5} (hx : xs[j]? = some x) : (mks k j ++ xs.drop j)[j]? = some x := by
  rw [List.getElem?_append_right (by rw [mks_len]; omega), mks_len, Nat.sub_self, List.getElem?_drop, Nat.add_zero]; exact hx
end Go.Proofs.Ytofclfgaekjonaa
