/- Blocks greater than what is in them. -/
import Derived.Test.YtofclfgaekjonaaZq27
namespace Go.Proofs.Ytofclfgaekjonaa
open Go.RowKit RM
set_option linter.unusedVariables false
set_option linter.unusedSimpArgs false
attribute [local irreducible] World.setCell

/-- a block of the call's own whose first cells are these numbers -/
def BkX (W : World) (g : Nat) (t : TypeId) (xs : List D5) : Prop := ∃ rest : List Value, W.heap[g]? = some (.cells (csL xs ++ rest).toArray t (0, 0))
theorem BkX.lt {W : World} {g : Nat} {t : TypeId} {xs : List D5} (h : BkX W g t xs) : g < W.heap.size := by
  obtain ⟨r, h⟩ := h; exact (Array.getElem?_eq_some_iff.1 h).1
theorem BkX.cx {W : World} {g : Nat} {t : TypeId} {xs : List D5} (h : BkX W g t xs) {k : Nat} {x : D5} (hk : xs[k]? = some x) : Cx W g (k * 5) x := by
  obtain ⟨r, h⟩ := h
  obtain ⟨h0, h1, h2, h3, h4⟩ := csL_get hk
  have e : ∀ (i : Nat) (v : Value), (csL xs)[i]? = some v → W.cell? ⟨g, i, none⟩ = some v := fun i v hv => (cell_of_row W g i _ t (0, 0) h).trans (by
    rw [List.getElem?_toArray, List.getElem?_append_left (List.getElem?_eq_some_iff.1 hv).1]; exact hv)
  exact ⟨e _ _ h0, e _ _ h1, e _ _ h2, e _ _ h3, e _ _ h4⟩
theorem BkX.rd {W : World} {g : Nat} {t : TypeId} {xs : List D5} (h : BkX W g t xs) : Rd W (some ⟨g, 0, none⟩) xs := fun k x hk => ⟨g, 0, rfl, by rw [Nat.zero_add]; exact h.cx hk⟩
theorem BkX.fr {W : World} {g : Nat} {t : TypeId} {xs : List D5} (h : BkX W g t xs) (i : Nat) : W.frozen? ⟨g, i, none⟩ = false := by
  obtain ⟨r, h⟩ := h; exact frozen_of_row W g i _ t h
theorem BkX.at_ {W W' : World} {g : Nat} {t : TypeId} {xs : List D5} (h : BkX W g t xs) (hb : W'.heap[g]? = W.heap[g]?) : BkX W' g t xs := by
  obtain ⟨r, h⟩ := h; exact ⟨r, hb.trans h⟩
theorem BkX.mono {W W' : World} {g : Nat} {t : TypeId} {xs : List D5} (h : BkX W g t xs) (hb : Below W.heap.size W W') : BkX W' g t xs := h.at_ (hb.block g h.lt)
theorem set5L {l r : List Value} {i : Nat} {a b c d e : Value} (h : i + 4 < l.length) : ((((((l ++ r).set i a).set (i + 1) b).set (i + 2) c).set (i + 3) d).set (i + 4) e) = (((((l.set i a).set (i + 1) b).set (i + 2) c).set (i + 3) d).set (i + 4) e) ++ r := by
  rw [List.set_append_left _ _ (by omega), List.set_append_left _ _ (by simp; omega), List.set_append_left _ _ (by simp; omega), List.set_append_left _ _ (by simp; omega), List.set_append_left _ _ (by simp; omega)]
theorem BkX.set {W : World} {g : Nat} {t : TypeId} {xs : List D5} (h : BkX W g t xs) {k : Nat} (x : D5) (hk : k < xs.length) : BkX (set5 W g (k * 5) x) g t (xs.set k x) := by
  obtain ⟨r, h0⟩ := h
  have h1 := heap_setCell_same _ g (k * 5) _ t (.int .i64 x.a) h0
  have h2 := heap_setCell_same _ g (k * 5 + 1) _ t (.int .i64 x.b) h1
  have h3 := heap_setCell_same _ g (k * 5 + 2) _ t (.int .i64 x.c) h2
  have h4 := heap_setCell_same _ g (k * 5 + 3) _ t (.int .i64 x.d) h3
  have h5 := heap_setCell_same _ g (k * 5 + 4) _ t (.int .i64 x.e) h4
  refine ⟨r, ?_⟩
  rw [csL_set x hk, ← set5L (by rw [csL_len]; omega)]
  refine h5.trans ?_
  simp only [List.setIfInBounds_toArray]
theorem Own5.bkx {W : World} {base : Nat} {t : TypeId} {v : Value} {xs : List D5} (h : Own5 W base t v xs) (h0 : xs.length ≠ 0) : ∃ g cp, v = .slice (some ⟨g, 0, none⟩) xs.length cp ∧ BkX W g t xs ∧ base ≤ g := by
  rcases h.2 with ⟨_, h1⟩ | ⟨g, cap, cur, hv, hb, hg, hnc, hcm, hcs, htake⟩
  · exact absurd h1 h0
  · refine ⟨g, cap, hv, ⟨cur.toList.drop (xs.length * 5), ?_⟩, hb⟩
    rw [← htake, List.take_append_drop]
    exact hg
/-- a slice of the call's own (or none); its block may be greater -/
def OwX (W : World) (B : Nat) (t : TypeId) (A : Option Addr) (xs : List D5) : Prop := (xs = [] ∧ A = none) ∨ ∃ g, A = some ⟨g, 0, none⟩ ∧ B ≤ g ∧ BkX W g t xs
theorem OwX.rd {W : World} {B : Nat} {t : TypeId} {A : Option Addr} {xs : List D5} (h : OwX W B t A xs) : Rd W A xs := by
  rcases h with ⟨rfl, _⟩ | ⟨g, rfl, _, h⟩
  · exact Rd.nil _ _
  · exact h.rd
theorem OwX.mono {W W' : World} {B : Nat} {t : TypeId} {A : Option Addr} {xs : List D5} (h : OwX W B t A xs) (hb : Below W.heap.size W W') : OwX W' B t A xs := by
  rcases h with h | ⟨g, rfl, h1, h2⟩
  · exact Or.inl h
  · exact Or.inr ⟨g, rfl, h1, h2.mono hb⟩
theorem OwX.grown {W W' : World} {B : Nat} {t : TypeId} {A : Option Addr} {xs : List D5} {row : Option Nat} (h : OwX W B t A xs) (hg : W.grownBy W' row) (hr : ∀ r, row = some r → r < B) : OwX W' B t A xs := by
  rcases h with h | ⟨g, rfl, h1, h2⟩
  · exact Or.inl h
  · exact Or.inr ⟨g, rfl, h1, h2.at_ (hg.block g h2.lt (fun e => by have := hr g e.symm; omega))⟩
theorem OwX.dn {W : World} {B B' : Nat} {t : TypeId} {A : Option Addr} {xs : List D5} (h : OwX W B t A xs) (hB : B' ≤ B) : OwX W B' t A xs := by
  rcases h with h | ⟨g, rfl, h1, h2⟩
  · exact Or.inl h
  · exact Or.inr ⟨g, rfl, Nat.le_trans hB h1, h2⟩
theorem OwX.row {W : World} {B : Nat} {t : TypeId} {A : Option Addr} {xs : List D5} (h : OwX W B t A xs) : ∀ r, blk A = some r → B ≤ r ∧ r < W.heap.size := by
  intro r hr
  rcases h with ⟨_, rfl⟩ | ⟨g, rfl, h1, h2⟩
  · cases hr
  · simp only [blk, Option.map_some, Option.some.injEq] at hr
    subst hr
    exact ⟨h1, h2.lt⟩
set_option maxRecDepth 100000 in
set_option maxHeartbeats 4000000 in
theorem mksx_s {g n c : Nat} {k : Int} {xs : List D5} {w : World} (hB : BkX w g 99 xs) (hn : xs.length = n) (hb : n ≤ 1048576) (h0 : 0 ≤ k) (h1 : k ≤ 10000000) :
    Calls Try.prog 83 #[.slice (some ⟨g, 0, none⟩) n c, .int .i64 k] w fun ee w' => ee = .returned (.int .i64 (k + 5 * (n : Int))) ∧ BkX w' g 99 (mks k n) ∧ w.grownBy w' (some g) := by
  have HB := hid hB
  have HN := hid hn
  clear hB hn
  go_enter Try.func83, Try.ntmps83
  go_wp2_with (fail)
  go_loopg [1, 5] n (fun q s0 s1 wr => ∃ j : Nat, j + q = n ∧ s0 = .int .i64 (k + 5 * (j : Int)) ∧ s1 = .int .i64 (j : Int) ∧ BkX wr g 99 (mks k j ++ xs.drop j) ∧ w.grownBy wr (some g))
  case atStart => exact ⟨0, by omega, by first | (go_num; done) | simp, rfl, HB.out, grown_below (Below.refl _ _)⟩
  case round =>
    obtain ⟨j, hj, rfl, rfl, hBk, hG⟩ := hrel
    cases gk with
    | zero =>
      obtain rfl : j = n := by omega
      have HBk := hid hBk
      clear hBk
      go_wp2_with (fail)
      go_ret
      refine ⟨rfl, ?_, hG⟩
      have h1 := HBk.out
      rw [List.drop_of_length_le (by rw [HN.out]; exact Nat.le_refl _), List.append_nil] at h1
      exact h1
    | succ m =>
      have hlt : j < n := by omega
      have hl : j < xs.length := by rw [HN.out]; exact hlt
      obtain ⟨x, hx⟩ : ∃ x, xs[j]? = some x := ⟨_, List.getElem?_eq_getElem hl⟩
      obtain ⟨p0, p1, p2, p3, p4⟩ := hBk.cx (mks_at (k := k) hx)
      have HL := hid hl
      clear hx hl
      have fr := hBk.fr
      have hsz := hBk.lt
      have HBk := hid hBk
      clear hBk
      have b0 : 0 ≤ k + 5 * (j : Int) := by omega
      have b1 : k + 5 * (j : Int) ≤ 100000000 := by omega
      go_wp2_with (fail)
      go_roundg m
      case measure => omega
      case rel =>
        refine ⟨j + 1, by omega, by go_num, by go_num, ?_, ?_⟩
        · have h1 := HBk.out.set (mk1 k j) (k := j) (by rw [List.length_append, mks_len, List.length_drop]; have := HL.out; omega)
          rw [mks_set HL.out] at h1
          exact h1
        · exact grown_set5 (x := mk1 k j) (o := j * 5) hG

theorem mksx_c {A : Option Addr} {B n c : Nat} {k : Int} {xs : List D5} {w : World} (hO : OwX w B 99 A xs) (hn : xs.length = n) (hb : n ≤ 1048576) (h0 : 0 ≤ k) (h1 : k ≤ 10000000) :
    Calls Try.prog 83 #[.slice A n c, .int .i64 k] w fun ee w' => ee = .returned (.int .i64 (k + 5 * (n : Int))) ∧ OwX w' B 99 A (mks k n) ∧ w.grownBy w' (blk A) := by
  rcases hO with ⟨rfl, rfl⟩ | ⟨g, rfl, hg, hB⟩
  · obtain rfl : n = 0 := hn.symm
    refine mks_n.mono ?_
    rintro ee w1 ⟨rfl, hb1⟩
    exact ⟨by simp, Or.inl ⟨rfl, rfl⟩, grown_below hb1⟩
  · refine (mksx_s hB hn hb h0 h1).mono ?_
    rintro ee w1 ⟨rfl, hB1, hg1⟩
    exact ⟨rfl, Or.inr ⟨g, rfl, hg, hB1⟩, hg1⟩
set_option maxRecDepth 100000 in
set_option maxHeartbeats 2000000 in
theorem mkbx {A : Option Addr} {B n cp : Nat} {k : Int} {xs : List D5} {w : World} (hO : OwX w B 99 A xs) (hn : xs.length = n) (hb : n ≤ 1048576) (h0 : 0 ≤ k) (h1 : k ≤ 10000000) :
    Calls Try.prog 34 #[bv A n cp, .int .i64 k] w fun ee w' => ee = .returned (.int .i64 (k + 5 * (n : Int))) ∧ OwX w' B 99 A (mks k n) ∧ w.grownBy w' (blk A) := by
  have HO := hid hO
  have HN := hid hn
  clear hO hn
  go_enter Try.func34, Try.ntmps34
  go_wp2_with ((go_at_call 83; ((with_reducible refine (mksx_c (B := B) ?_ HN.out hb h0 h1).mono ?_); (exact HO.out.mono (by (repeat' (first | (with_reducible exact Below.refl _ _) | (with_reducible assumption) | (with_reducible refine Below.alloc ?_ ?_ _) | (with_reducible refine Below.drew ?_) | (with_reducible refine below_drewN ?_ _) | (with_reducible refine Below.setCell ?_ ?_ _) | (with_reducible refine chain ?_ (by assumption) ?_) | omega | (simp; done) | (simp; omega))))); rintro ee w1 ⟨rfl, hO1, hg1⟩; have HO1 := hid hO1; have HG1 := hid hg1; clear hO1 hg1)))
  go_ret
  exact ⟨rfl, HO1.out, grown_alloc HG1.out⟩


end Go.Proofs.Ytofclfgaekjonaa
