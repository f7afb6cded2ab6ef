/- LsB, ReadsB, Bad, Held, SubA, MulS, DyC, HeldB, RingS, AddA -/
import Derived.Test.YtofclfgaekjonaaZq3
import Derived.Test.YtofclfgaekjonaaZq1
import Derived.Test.YtofclfgaekjonaaZq0
import Derived.Deep.RegionHeld3
import Derived.Deep.MidRow
import Derived.Deep.RegionWith
import Derived.Test.YtofclfgaekjonaaZq2
import Derived.Deep.LoopGhost
namespace Go.Proofs.Ytofclfgaekjonaa
open Go.RowKit RM
set_option linter.unusedVariables false
set_option linter.unusedSimpArgs false
attribute [local irreducible] World.setCell

/-- the value of a Bloch matrix; one and whether there is one -/
abbrev bv (A : Option Addr) (n cp : Nat) : Value := .agg #[.slice A n cp]
abbrev bt (A : Option Addr) (n cp : Nat) (ok : Bool) : Value := .tuple #[bv A n cp, .bool ok]

set_option maxRecDepth 100000 in
set_option maxHeartbeats 2000000 in
theorem szb_t {A : Option Addr} {n cp : Nat} {k : Int} {w : World} (hn : (n : Int) ≤ k) (hk : k ≤ 1048576) :
    Calls Try.prog 25 #[bv A n cp, .int .i64 k] w fun ee w' => ee = .returned (.int .i64 (k - n)) ∧ Below w.heap.size w w' := by
  have h0 : ¬ (k - (n : Int) < 0) := by omega
  have h1 : 0 ≤ k - (n : Int) := by omega
  go_enter Try.func25, Try.ntmps25
  go_wp2_with ((go_at_call 56; ((with_reducible refine (szs_t hn hk).mono ?_); rintro ee w1 ⟨rfl, hb1⟩)))
  go_ret
  refine ⟨rfl, ?_⟩
  (repeat' (first | (with_reducible exact Below.refl _ _) | (with_reducible assumption) | (with_reducible refine Below.alloc ?_ ?_ _) | (with_reducible refine Below.drew ?_) | (with_reducible refine below_drewN ?_ _) | (with_reducible refine Below.setCell ?_ ?_ _) | (with_reducible refine chain ?_ (by assumption) ?_) | omega | (simp; done) | (simp; omega)))

set_option maxRecDepth 100000 in
set_option maxHeartbeats 2000000 in
theorem szb_f {A : Option Addr} {n cp : Nat} {k : Int} {w : World} (hn : k < (n : Int)) (hk : k ≤ 1048576) (h0 : 0 ≤ k) (hb : n ≤ maxLen) :
    Calls Try.prog 25 #[bv A n cp, .int .i64 k] w fun ee w' => ee = .returned (.int .i64 (-1)) ∧ Below w.heap.size w w' := by
  go_enter Try.func25, Try.ntmps25
  go_wp2_with ((go_at_call 56; ((with_reducible refine (szs_f hn hk h0 hb).mono ?_); rintro ee w1 ⟨rfl, hb1⟩)))
  go_ret
  refine ⟨rfl, ?_⟩
  (repeat' (first | (with_reducible exact Below.refl _ _) | (with_reducible assumption) | (with_reducible refine Below.alloc ?_ ?_ _) | (with_reducible refine Below.drew ?_) | (with_reducible refine below_drewN ?_ _) | (with_reducible refine Below.setCell ?_ ?_ _) | (with_reducible refine chain ?_ (by assumption) ?_) | omega | (simp; done) | (simp; omega)))

set_option maxRecDepth 100000 in
set_option maxHeartbeats 2000000 in
theorem tb {A : Option Addr} {n cp : Nat} {xs : List D5} {w : World} (hR : Rd w A xs) (hn : xs.length = n) (hb : n ≤ 1048576) :
    Calls Try.prog 27 #[bv A n cp] w fun ee w' => ∃ g, ee = .returned (bv (some ⟨g, 0, none⟩) n n) ∧ Bk w' g 99 xs ∧ w.heap.size ≤ g ∧ Below w.heap.size w w' := by
  have HR := hid hR
  have HN := hid hn
  clear hR hn
  go_enter Try.func27, Try.ntmps27
  go_wp2_with ((go_at_call 59; ((with_reducible refine (tds ?_ HN.out hb).mono ?_); (exact HR.out.mono (by (repeat' (first | (with_reducible exact Below.refl _ _) | (with_reducible assumption) | (with_reducible refine Below.alloc ?_ ?_ _) | (with_reducible refine Below.drew ?_) | (with_reducible refine below_drewN ?_ _) | (with_reducible refine Below.setCell ?_ ?_ _) | (with_reducible refine chain ?_ (by assumption) ?_) | omega | (simp; done) | (simp; omega))))); rintro ee w1 ⟨rfl, hB1, hb1⟩; simp only [World.size_alloc] at hB1; have HB1 := hid hB1; clear hB1; obtain ⟨hc1, hf1, _⟩ := bcell hb1; have hz1 := hb1.size; (try simp at hz1); (try have hx10 : w.heap.size < w1.heap.size := (by omega)); (try have hx11 : w.heap.size + 1 < w1.heap.size := (by omega)); (try have hx12 : w.heap.size + 1 + 1 < w1.heap.size := (by omega)); (try have hx13 : w.heap.size + 1 + 1 + 1 < w1.heap.size := (by omega)))))
  refine bodyPost_ret (v := bv (some ⟨w.heap.size + 1 + 1 + 1, 0, none⟩) n n) (by first | (simp [results, Try.results27, go_sem, *]; done) | (simp (disch := (first | omega | (simp; done) | (simp; omega))) [results, Try.results27, go_sem, *]; done)) rfl ⟨_, rfl, ?_, by omega, ?_⟩
  · refine HB1.out.at_ ?_
    (repeat (rw [Below.heap_setCell _ _ _ _ (by simp; try omega)]))
    try rfl
  · (repeat' (first | (with_reducible exact Below.refl _ _) | (with_reducible assumption) | (with_reducible refine Below.alloc ?_ ?_ _) | (with_reducible refine Below.drew ?_) | (with_reducible refine below_drewN ?_ _) | (with_reducible refine Below.setCell ?_ ?_ _) | (with_reducible refine chain ?_ (by assumption) ?_) | omega | (simp; done) | (simp; omega)))

set_option maxRecDepth 100000 in
set_option maxHeartbeats 2000000 in
theorem eqb {A B : Option Addr} {n cp dp : Nat} {xs : List D5} {w : World} (hA : Rd w A xs) (hB : Rd w B xs) (hn : xs.length = n) (hb : n ≤ 1048576) :
    Calls Try.prog 29 #[bv A n cp, bv B n dp] w fun ee w' => ee = .returned (.bool true) ∧ Below w.heap.size w w' := by
  have HA := hid hA
  have HB := hid hB
  have HN := hid hn
  clear hA hB hn
  go_enter Try.func29, Try.ntmps29
  go_wp2_with ((go_at_call 62; ((with_reducible refine (eqs ?_ ?_ HN.out hb).mono ?_); (exact HA.out.mono (by (repeat' (first | (with_reducible exact Below.refl _ _) | (with_reducible assumption) | (with_reducible refine Below.alloc ?_ ?_ _) | (with_reducible refine Below.drew ?_) | (with_reducible refine below_drewN ?_ _) | (with_reducible refine Below.setCell ?_ ?_ _) | (with_reducible refine chain ?_ (by assumption) ?_) | omega | (simp; done) | (simp; omega))))); (exact HB.out.mono (by (repeat' (first | (with_reducible exact Below.refl _ _) | (with_reducible assumption) | (with_reducible refine Below.alloc ?_ ?_ _) | (with_reducible refine Below.drew ?_) | (with_reducible refine below_drewN ?_ _) | (with_reducible refine Below.setCell ?_ ?_ _) | (with_reducible refine chain ?_ (by assumption) ?_) | omega | (simp; done) | (simp; omega))))); rintro ee w1 ⟨rfl, hb1⟩)))
  go_ret
  refine ⟨rfl, ?_⟩
  (repeat' (first | (with_reducible exact Below.refl _ _) | (with_reducible assumption) | (with_reducible refine Below.alloc ?_ ?_ _) | (with_reducible refine Below.drew ?_) | (with_reducible refine below_drewN ?_ _) | (with_reducible refine Below.setCell ?_ ?_ _) | (with_reducible refine chain ?_ (by assumption) ?_) | omega | (simp; done) | (simp; omega)))


set_option maxRecDepth 100000 in
set_option maxHeartbeats 2000000 in
theorem mkb {A : Option Addr} {B n cp : Nat} {k : Int} {xs : List D5} {w : World} (hO : Ow w B 99 A xs) (hn : xs.length = n) (hb : n ≤ 1048576) (h0 : 0 ≤ k) (h1 : k ≤ 10000000) :
    Calls Try.prog 34 #[bv A n cp, .int .i64 k] w fun ee w' => ee = .returned (.int .i64 (k + 5 * (n : Int))) ∧ Ow w' B 99 A (mks k n) ∧ w.grownBy w' (blk A) := by
  have HO := hid hO
  have HN := hid hn
  clear hO hn
  go_enter Try.func34, Try.ntmps34
  go_wp2_with ((go_at_call 83; ((with_reducible refine (mks_c (B := B) ?_ HN.out hb h0 h1).mono ?_); (exact HO.out.mono (by (repeat' (first | (with_reducible exact Below.refl _ _) | (with_reducible assumption) | (with_reducible refine Below.alloc ?_ ?_ _) | (with_reducible refine Below.drew ?_) | (with_reducible refine below_drewN ?_ _) | (with_reducible refine Below.setCell ?_ ?_ _) | (with_reducible refine chain ?_ (by assumption) ?_) | omega | (simp; done) | (simp; omega))))); rintro ee w1 ⟨rfl, hO1, hg1⟩; have HO1 := hid hO1; have HG1 := hid hg1; clear hO1 hg1)))
  go_ret
  exact ⟨rfl, HO1.out, grown_alloc HG1.out⟩

set_option maxRecDepth 100000 in
set_option maxHeartbeats 2000000 in
theorem hdb {A : Option Addr} {n cp : Nat} {k : Int} {w : World} (hA : Rd w A (mks k n)) (hb : n ≤ 1048576) (h0 : 0 ≤ k) (h1 : k ≤ 10000000) :
    Calls Try.prog 35 #[bv A n cp, .int .i64 k] w fun ee w' => ee = .returned (.int .i64 (k + 5 * (n : Int))) ∧ Below w.heap.size w w' := by
  have HA := hid hA
  clear hA
  have b0 : ¬ (k + 5 * (n : Int) < 0) := by omega
  go_enter Try.func35, Try.ntmps35
  go_wp2_with ((go_at_call 84; ((with_reducible refine (hds ?_ hb h0 h1).mono ?_); (exact HA.out.mono (by (repeat' (first | (with_reducible exact Below.refl _ _) | (with_reducible assumption) | (with_reducible refine Below.alloc ?_ ?_ _) | (with_reducible refine Below.drew ?_) | (with_reducible refine below_drewN ?_ _) | (with_reducible refine Below.setCell ?_ ?_ _) | (with_reducible refine chain ?_ (by assumption) ?_) | omega | (simp; done) | (simp; omega))))); rintro ee w1 ⟨rfl, hb1⟩)))
  go_ret
  refine ⟨rfl, ?_⟩
  (repeat' (first | (with_reducible exact Below.refl _ _) | (with_reducible assumption) | (with_reducible refine Below.alloc ?_ ?_ _) | (with_reducible refine Below.drew ?_) | (with_reducible refine below_drewN ?_ _) | (with_reducible refine Below.setCell ?_ ?_ _) | (with_reducible refine chain ?_ (by assumption) ?_) | omega | (simp; done) | (simp; omega)))

end Go.Proofs.Ytofclfgaekjonaa
namespace Go.Proofs.Ytofclfgaekjonaa
open Go.ChangeShapes Go.WideShapes Go.ChangeAt Go.RowKit Go.Joins Go.Deep
open Go.ChangeMaps (open_string shut_string)
set_option linter.unusedVariables false
set_option linter.unusedSimpArgs false

theorem cellsBloch : Try.prog.cellsOf 47 = 1 := by kernel_rfl
set_option maxRecDepth 100000 in
theorem fieldsBloch : ∃ f0 : Field, Try.prog.underlying 47 = some (.struct #[f0]) ∧ oneCellFields Try.prog #[f0] = true ∧ f0.type = 22 :=
  ⟨_, Try.underlying47, by kernel_rfl, rfl⟩
set_option maxRecDepth 100000 in
theorem bloch_arg {H : Type} {enc : TypeId × Value → H} {W : World} {base : Nat} {spare : Nat → Bool} {held : Bool} {r : Reach} {b0 : Nat} {v : Value} {d : DataW H} {p : List MemPlace}
    (hv : Value.okWide Try.prog W r b0 47 v) (h : DataW.Trod enc Try.prog W base spare held 47 v d p) :
    ∃ (A : Option Addr) (n cp : Nat) (xs : List D5), v = bv A n cp ∧ Rd W A xs ∧ xs.length = n ∧ n ≤ maxLen := by
  obtain ⟨f0, hs, ho, t0⟩ := fieldsBloch
  obtain ⟨cs, rfl, hsz⟩ := okWide_struct hs hv
  obtain ⟨c0, rfl⟩ : ∃ c0, cs = #[c0] := by
    obtain ⟨l⟩ := cs
    match l, (hsz.trans cellsBloch) with
    | [c0], _ => exact ⟨c0, rfl⟩
  obtain ⟨fuel, hf⟩ := h
  obtain ⟨y0, n, hx, _, h0⟩ := trod_struct1 hs hf
  obtain ⟨o0, k0⟩ := hone_of ho 0 f0 rfl
  rw [t0] at h0 k0
  rw [o0, k0] at h0
  simp only [Value.cells, List.drop_zero, List.take_succ_cons, List.take_zero] at h0
  obtain ⟨A, n, cp, xs, rfl, hR, hl, hm⟩ := slice_arg h0
  exact ⟨A, n, cp, xs, rfl, hR, hl, hm⟩
end Go.Proofs.Ytofclfgaekjonaa
namespace Go.Proofs.Ytofclfgaekjonaa
open Go.RowKit RM
set_option linter.unusedVariables false
set_option linter.unusedSimpArgs false
theorem setCell_self {w : World} {b o : Nat} {v : Value} (h : w.cell? ⟨b, o, none⟩ = some v) : w.setCell ⟨b, o, none⟩ v = w := by
  unfold World.setCell
  have : w.heap.modify b (fun | .cells c elem frozen => .cells (if (none : Option Nat).isSome then c else c.setIfInBounds o v) elem frozen | x => x) = w.heap := by
    apply Array.ext_getElem?
    intro i
    rw [Array.getElem?_modify]
    split
    · rename_i hi
      subst hi
      unfold World.cell? at h
      split at h
      · rename_i c el fr hc
        rw [hc]
        simp at h ⊢
        apply Array.ext_getElem?
        intro j
        rw [Array.getElem?_setIfInBounds]
        split
        · rename_i hj
          subst hj
          rw [h]
          split
          · rfl
          · rename_i hn
            exfalso
            exact hn (Array.getElem?_eq_some_iff.1 h).1
        · rfl
      · cases h
    · rfl
  exact congrArg (fun h => ({ w with heap := h } : World)) this
theorem setCell_twice (w : World) (b o : Nat) (u v : Value) : (w.setCell ⟨b, o, none⟩ u).setCell ⟨b, o, none⟩ v = w.setCell ⟨b, o, none⟩ v := by
  unfold World.setCell
  have : ((w.heap.modify b fun | .cells c elem frozen => .cells (if (none : Option Nat).isSome then c else c.setIfInBounds o u) elem frozen | x => x).modify b fun | .cells c elem frozen => .cells (if (none : Option Nat).isSome then c else c.setIfInBounds o v) elem frozen | x => x) = w.heap.modify b (fun | .cells c elem frozen => .cells (if (none : Option Nat).isSome then c else c.setIfInBounds o v) elem frozen | x => x) := by
    apply Array.ext_getElem?
    intro i
    simp only [Array.getElem?_modify]
    split
    · cases w.heap[i]? with
      | none => rfl
      | some x => cases x <;> simp
    · rfl
  show ({ w with heap := _ } : World) = { w with heap := _ }
  exact congrArg (fun h => ({ w with heap := h } : World)) this
theorem both {B : Nat} {w a : World} (h : Below B w a) (b o : Nat) (hp : b < B) (u : Value) : Below B (w.setCell ⟨b, o, none⟩ u) (a.setCell ⟨b, o, none⟩ u) := by
  refine ⟨h.os, h.tape, h.output, by have := h.size; simpa using this, fun k hk => ?_⟩
  by_cases hk2 : k = b
  · subst hk2
    have := h.block k hk
    simp only [World.setCell, Array.getElem?_modify, if_true, this]
  · rw [Below.heap_setCell _ _ _ _ hk2, Below.heap_setCell _ _ _ _ hk2, h.block k hk]
/-- the failure is set (again) behind some steps -/
theorem bad_step {B : Nat} {w a c : World} {b o : Nat} {u v : Value} (h : Below B (w.setCell ⟨b, o, none⟩ u) a) (hb : b < B) (h2 : Below a.heap.size (a.setCell ⟨b, o, none⟩ v) c) (hB : B ≤ a.heap.size) : Below B (w.setCell ⟨b, o, none⟩ v) c := by
  have h1 := both h b o hb v
  rw [setCell_twice] at h1
  exact h1.trans (h2.mono hB)
theorem bad_0 {B : Nat} {w : World} {b o : Nat} {u : Value} (h : w.cell? ⟨b, o, none⟩ = some u) : Below B (w.setCell ⟨b, o, none⟩ u) w := by
  rw [setCell_self h]; exact Below.refl _ _
theorem chain2 {B : Nat} {u a b : World} (h : Below B u a) (k : Below a.heap.size a b) (hB : B ≤ a.heap.size) : Below B u b := chain h k hB
end Go.Proofs.Ytofclfgaekjonaa
namespace Go.Proofs.Ytofclfgaekjonaa
open Go.RowKit
theorem bcell_drew {W w1 : World} (hb : Below W.drew.heap.size W.drew w1) : (∀ b o, b < W.heap.size → w1.cell? ⟨b, o, none⟩ = W.cell? ⟨b, o, none⟩) ∧ (∀ b o, b < W.heap.size → w1.frozen? ⟨b, o, none⟩ = W.frozen? ⟨b, o, none⟩) ∧ W.heap.size ≤ w1.heap.size :=
  bcell (W := W.drew) hb
end Go.Proofs.Ytofclfgaekjonaa
namespace Go.Proofs.Ytofclfgaekjonaa
open Go.RowKit RM
set_option linter.unusedVariables false
set_option linter.unusedSimpArgs false

set_option maxRecDepth 100000 in
set_option maxHeartbeats 1000000 in
theorem ng (p q r s : Int) (w : World) (hy : vr p q r s = true) :
    Calls Try.prog 171 #[rg p q r s] w fun e w' => e = .returned (rg (-p) (-q) (-r) (-s)) ∧ Below w.heap.size w w' := by
  obtain ⟨⟨p1, p2⟩, ⟨q1, q2⟩, ⟨r1, r2⟩, ⟨s1, s2⟩⟩ := vr_iff.1 hy
  have HY := hid hy
  clear hy
  go_enter Try.func171, Try.ntmps171
  go_wp2_with (first | go_in)
  refine bodyPost_ret (v := rg (-p) (-q) (-r) (-s)) (by first | (simp [results, Try.results171, go_sem, *]; done) | (simp (disch := (first | omega | (simp; done) | (simp; omega))) [results, Try.results171, go_sem, *]; done) | (simp only [results, Try.results171]; go_simp; done)) rfl ⟨rfl, ?_⟩
  repeat' (first | (with_reducible exact Below.refl _ _) | (with_reducible refine Below.alloc ?_ ?_ _) | (with_reducible refine Below.drew ?_) | (with_reducible refine Below.setCell ?_ ?_ _) | (with_reducible refine chain ?_ (by assumption) ?_) | omega | (simp; done) | (simp; omega))

set_option maxRecDepth 100000 in
set_option maxHeartbeats 1000000 in
theorem la (a b c d p q r s : Int) (w : World) (hx : vr a b c d = true) (hy : vr p q r s = true) :
    Calls Try.prog 170 #[rg a b c d, rg p q r s] w fun e w' => e = .returned (rg (a + p) (b + q) (c + r) (d + s)) ∧ Below w.heap.size w w' := by
  obtain ⟨⟨a1, a2⟩, ⟨b1, b2⟩, ⟨c1, c2⟩, ⟨d1, d2⟩⟩ := vr_iff.1 hx
  obtain ⟨⟨p1, p2⟩, ⟨q1, q2⟩, ⟨r1, r2⟩, ⟨s1, s2⟩⟩ := vr_iff.1 hy
  have HX := hid hx
  clear hx
  have HY := hid hy
  clear hy
  go_enter Try.func170, Try.ntmps170
  go_wp2_with (first | go_in)
  refine bodyPost_ret (v := rg (a + p) (b + q) (c + r) (d + s)) (by first | (simp [results, Try.results170, go_sem, *]; done) | (simp (disch := (first | omega | (simp; done) | (simp; omega))) [results, Try.results170, go_sem, *]; done) | (simp only [results, Try.results170]; go_simp; done)) rfl ⟨rfl, ?_⟩
  repeat' (first | (with_reducible exact Below.refl _ _) | (with_reducible refine Below.alloc ?_ ?_ _) | (with_reducible refine Below.drew ?_) | (with_reducible refine Below.setCell ?_ ?_ _) | (with_reducible refine chain ?_ (by assumption) ?_) | omega | (simp; done) | (simp; omega))

theorem vr_neg {p q r s : Int} (h : vr p q r s = true) : vr (-p) (-q) (-r) (-s) = true := by
  rw [vr_iff] at *; omega

set_option maxRecDepth 100000 in
set_option maxHeartbeats 2000000 in
theorem sub_i_t (a b c d p q r s : Int) (w : World) (hx : vr a b c d = true) (hy : vr p q r s = true) (hv : vr (a - p) (b - q) (c - r) (d - s) = true) :
    Calls Try.prog 175 #[rg a b c d, rg p q r s] w fun e w' => e = .returned (rt (a - p) (b - q) (c - r) (d - s) true) ∧ Below w.heap.size w w' := by
  obtain ⟨⟨a1, a2⟩, ⟨b1, b2⟩, ⟨c1, c2⟩, ⟨d1, d2⟩⟩ := vr_iff.1 hx
  obtain ⟨⟨p1, p2⟩, ⟨q1, q2⟩, ⟨r1, r2⟩, ⟨s1, s2⟩⟩ := vr_iff.1 hy
  have HX := hid hx
  clear hx
  have HY := hid hy
  clear hy
  have HV := hid hv
  clear hv
  go_enter Try.func175, Try.ntmps175
  go_wp2_with (first | (go_at_call 172; ((with_reducible refine (iv_t _ _ _ _ _ HX.out).mono ?_); rintro e w1 ⟨rfl, hb1⟩; obtain ⟨hc1, hf1, _⟩ := bcell hb1; have hz1 := hb1.size; (try simp at hz1); (try have hx10 : w.heap.size < w1.heap.size := (by omega)); (try have hx11 : w.heap.size + 1 < w1.heap.size := (by omega)); (try have hx12 : w.heap.size + 1 + 1 < w1.heap.size := (by omega)); (try have hx13 : w.heap.size + 1 + 1 + 1 < w1.heap.size := (by omega)))) | (go_at_call 172; ((with_reducible refine (iv_t _ _ _ _ _ HY.out).mono ?_); rintro e w2 ⟨rfl, hb2⟩; obtain ⟨hc2, hf2, _⟩ := bcell hb2; have hz2 := hb2.size; (try simp at hz2); (try have hx20 : w.heap.size < w2.heap.size := (by omega)); (try have hx21 : w.heap.size + 1 < w2.heap.size := (by omega)); (try have hx22 : w.heap.size + 1 + 1 < w2.heap.size := (by omega)); (try have hx23 : w.heap.size + 1 + 1 + 1 < w2.heap.size := (by omega)))) | (go_at_call 178; ((with_reducible refine (ro_t _ _ _ _ _ HV.out).mono ?_); rintro e w4 ⟨rfl, hb4⟩; obtain ⟨hc4, hf4, _⟩ := bcell hb4; have hz4 := hb4.size; (try simp at hz4); (try have hx40 : w.heap.size < w4.heap.size := (by omega)); (try have hx41 : w.heap.size + 1 < w4.heap.size := (by omega)); (try have hx42 : w.heap.size + 1 + 1 < w4.heap.size := (by omega)); (try have hx43 : w.heap.size + 1 + 1 + 1 < w4.heap.size := (by omega)); have zc0 : w4.cell? ⟨w.heap.size + 1 + 1, 0, none⟩ = some (.int .i64 0) := (by rw [hc4 _ _ (by first | omega | (simp; omega))]; go_simp); have zc1 : w4.cell? ⟨w.heap.size + 1 + 1, 1, none⟩ = some (.int .i64 0) := (by rw [hc4 _ _ (by first | omega | (simp; omega))]; go_simp); have zc2 : w4.cell? ⟨w.heap.size + 1 + 1, 2, none⟩ = some (.int .i64 0) := (by rw [hc4 _ _ (by first | omega | (simp; omega))]; go_simp); have zc3 : w4.cell? ⟨w.heap.size + 1 + 1, 3, none⟩ = some (.int .i64 0) := (by rw [hc4 _ _ (by first | omega | (simp; omega))]; go_simp); have zf0 : w4.frozen? ⟨w.heap.size + 1 + 1, 0, none⟩ = false := (by rw [hf4 _ _ (by first | omega | (simp; omega))]; go_simp); have zf1 : w4.frozen? ⟨w.heap.size + 1 + 1, 1, none⟩ = false := (by rw [hf4 _ _ (by first | omega | (simp; omega))]; go_simp); have zf2 : w4.frozen? ⟨w.heap.size + 1 + 1, 2, none⟩ = false := (by rw [hf4 _ _ (by first | omega | (simp; omega))]; go_simp); have zf3 : w4.frozen? ⟨w.heap.size + 1 + 1, 3, none⟩ = false := (by rw [hf4 _ _ (by first | omega | (simp; omega))]; go_simp))) | go_in)
  refine bodyPost_ret (v := rt (a - p) (b - q) (c - r) (d - s) true) (by first | (simp [results, Try.results175, go_sem, *]; done) | (simp (disch := (first | omega | (simp; done) | (simp; omega))) [results, Try.results175, go_sem, *]; done) | (simp only [results, Try.results175]; go_simp; done)) rfl ⟨rfl, ?_⟩
  repeat' (first | (with_reducible exact Below.refl _ _) | (with_reducible refine Below.alloc ?_ ?_ _) | (with_reducible refine Below.drew ?_) | (with_reducible refine Below.setCell ?_ ?_ _) | (with_reducible refine chain ?_ (by assumption) ?_) | omega | (simp; done) | (simp; omega))

end Go.Proofs.Ytofclfgaekjonaa
namespace Go.Proofs.Ytofclfgaekjonaa
open Go.RowKit RM
set_option linter.unusedVariables false
set_option linter.unusedSimpArgs false

set_option maxRecDepth 100000 in
set_option maxHeartbeats 4000000 in
theorem lm (a b c d p q r s : Int) (w : World) (hx : vr a b c d = true) (hy : vr p q r s = true) :
    Calls Try.prog 168 #[rg a b c d, rg p q r s] w fun e w' => e = .returned (rg (m0 a b c d p q r s) (m1 a b c d p q r s) (m2 a b c d p q r s) (m3 a b c d p q r s)) ∧ Below w.heap.size w w' := by
  obtain ⟨ha, hb, hc, hd⟩ := vr_iff.1 hx
  obtain ⟨hp, hq, hr, hs⟩ := vr_iff.1 hy
  obtain ⟨ap1, ap2⟩ := mul_bd ha hp
  obtain ⟨aq1, aq2⟩ := mul_bd ha hq
  obtain ⟨ar1, ar2⟩ := mul_bd ha hr
  obtain ⟨as1, as2⟩ := mul_bd ha hs
  obtain ⟨bp1, bp2⟩ := mul_bd hb hp
  obtain ⟨bq1, bq2⟩ := mul_bd hb hq
  obtain ⟨br1, br2⟩ := mul_bd hb hr
  obtain ⟨bs1, bs2⟩ := mul_bd hb hs
  obtain ⟨cp1, cp2⟩ := mul_bd hc hp
  obtain ⟨cq1, cq2⟩ := mul_bd hc hq
  obtain ⟨cr1, cr2⟩ := mul_bd hc hr
  obtain ⟨cs1, cs2⟩ := mul_bd hc hs
  obtain ⟨dp1, dp2⟩ := mul_bd hd hp
  obtain ⟨dq1, dq2⟩ := mul_bd hd hq
  obtain ⟨dr1, dr2⟩ := mul_bd hd hr
  obtain ⟨ds1, ds2⟩ := mul_bd hd hs
  clear ha hb hc hd hp hq hr hs
  have HX := hid hx
  clear hx
  have HY := hid hy
  clear hy
  go_enter Try.func168, Try.ntmps168
  go_wp2_with (first | go_in)
  refine bodyPost_ret (v := rg (m0 a b c d p q r s) (m1 a b c d p q r s) (m2 a b c d p q r s) (m3 a b c d p q r s)) (by first | (simp [results, Try.results168, go_sem, *]; done) | (simp (disch := (first | omega | (simp; done) | (simp; omega))) [results, Try.results168, go_sem, *]; done) | (simp only [results, Try.results168]; go_simp; done)) rfl ⟨rfl, ?_⟩
  repeat' (first | (with_reducible exact Below.refl _ _) | (with_reducible refine Below.alloc ?_ ?_ _) | (with_reducible refine Below.drew ?_) | (with_reducible refine Below.setCell ?_ ?_ _) | (with_reducible refine chain ?_ (by assumption) ?_) | omega | (simp; done) | (simp; omega))
end Go.Proofs.Ytofclfgaekjonaa
namespace Go.Proofs.Ytofclfgaekjonaa
open Go.RowKit RM
set_option linter.unusedVariables false
set_option linter.unusedSimpArgs false
attribute [local irreducible] World.setCell

end Go.Proofs.Ytofclfgaekjonaa
namespace Go.Proofs.Ytofclfgaekjonaa
open Go.RowKit
/-- a cell that is there: behind a call, behind a new block, behind a store of four cells into a newer block -/
theorem kc {a b : World} {k o : Nat} {v : Value} (hb : Below a.heap.size a b) (h : a.cell? ⟨k, o, none⟩ = some v) : b.cell? ⟨k, o, none⟩ = some v :=
  ((bcell hb).1 k o (World.block_lt_of_cell? a _ h)).trans h
theorem kal {a : World} {x : Obj} {k o : Nat} {v : Value} (h : a.cell? ⟨k, o, none⟩ = some v) : (a.alloc x).cell? ⟨k, o, none⟩ = some v :=
  kc ((Below.refl _ _).alloc (Nat.le_refl _) _) h
theorem kald {a : World} {x : Obj} {k o : Nat} {v : Value} (h : a.drew.cell? ⟨k, o, none⟩ = some v) : (a.alloc x).drew.cell? ⟨k, o, none⟩ = some v :=
  kal (a := a) h
/-- a store that is folded into the new block -/
theorem kre {a : World} {x y : Obj} {k o : Nat} {v : Value} (hk : k < a.heap.size) (h : (a.alloc x).cell? ⟨k, o, none⟩ = some v) : (a.alloc y).cell? ⟨k, o, none⟩ = some v := by
  rw [World.cell?_alloc_lt _ _ _ hk]
  rw [World.cell?_alloc_lt _ _ _ hk] at h
  exact h
end Go.Proofs.Ytofclfgaekjonaa
namespace Go.Proofs.Ytofclfgaekjonaa
open Go.RowKit RM
set_option linter.unusedVariables false
set_option linter.unusedSimpArgs false
attribute [local irreducible] World.setCell
theorem wr64 {x : Int} (h1 : -9223372036854775808 ≤ x) (h2 : x ≤ 9223372036854775807) : IntKind.i64.wrap x = x := by
  rw [IntKind.wrap_i64]; first | omega | (simp only [wrap64]; omega) | (rw [Int.bmod_def]; omega)
theorem l2lowx (a b c d x : Int) (e : Nat) (A B C D : Int) (E : Nat) (w : World) (hn : x = (e : Int)) (hx : vr a b c d = true) (he : e ≤ 60) (hl : low e a b c d = ⟨A, B, C, D, E⟩) :
    Calls Try.prog 166 #[rg a b c d, .int .i64 x] w fun ee w' => ee = .returned (dy A B C D E) ∧ Below w.heap.size w w' := by
  subst hn; exact l2low a b c d e A B C D E w hx he hl
theorem dofx (a b c d x : Int) (e : Nat) (A B C D : Int) (E : Nat) (w : World) (hn : x = (e : Int)) (hx : vr a b c d = true) (he : e ≤ 60) (hl : low e a b c d = ⟨A, B, C, D, E⟩) :
    Calls Try.prog 130 #[rg a b c d, .int .i64 x] w fun ee w' => ee = .returned (dt A B C D E true) ∧ Below w.heap.size w w' := by
  subst hn; exact dof_t a b c d e A B C D E w hx he hl
theorem ks5 {a : World} {g k o : Nat} {v v0 v1 v2 v3 v4 : Value} (hne : g ≠ k) (h : a.cell? ⟨k, o, none⟩ = some v) : (((((a.setCell ⟨g, 0, none⟩ v0).setCell ⟨g, 1, none⟩ v1).setCell ⟨g, 2, none⟩ v2).setCell ⟨g, 3, none⟩ v3).setCell ⟨g, 4, none⟩ v4).cell? ⟨k, o, none⟩ = some v := by
  rw [World.cell?_setCell_far _ _ _ _ hne, World.cell?_setCell_far _ _ _ _ hne, World.cell?_setCell_far _ _ _ _ hne, World.cell?_setCell_far _ _ _ _ hne, World.cell?_setCell_far _ _ _ _ hne, h]
/-- a cell behind a call that has set another one -/
theorem kcs {a b : World} {g k o : Nat} {u v : Value} (hb : Below a.heap.size (a.setCell ⟨g, 0, none⟩ u) b) (hne : g ≠ k) (h : a.cell? ⟨k, o, none⟩ = some v) : b.cell? ⟨k, o, none⟩ = some v :=
  (hb.cell (p := ⟨k, o, none⟩) (World.block_lt_of_cell? a _ h)).trans ((World.cell?_setCell_far _ _ _ _ hne).trans h)
theorem kfs {a b : World} {g k o : Nat} {u : Value} (hb : Below a.heap.size (a.setCell ⟨g, 0, none⟩ u) b) (hk : k < a.heap.size) (h : a.frozen? ⟨k, o, none⟩ = false) : b.frozen? ⟨k, o, none⟩ = false :=
  (hb.frozen (p := ⟨k, o, none⟩) hk).trans ((World.frozen?_setCell _ _ _ _).trans h)
theorem bcellB {B : Nat} {W w1 : World} (hb : Below B W w1) : (∀ b o, b < B → w1.cell? ⟨b, o, none⟩ = W.cell? ⟨b, o, none⟩) ∧ (∀ b o, b < B → w1.frozen? ⟨b, o, none⟩ = W.frozen? ⟨b, o, none⟩) ∧ W.heap.size ≤ w1.heap.size :=
  ⟨fun b o h => hb.cell (p := ⟨b, o, none⟩) h, fun b o h => hb.frozen (p := ⟨b, o, none⟩) h, hb.size⟩
theorem kf {a b : World} {k o : Nat} {v : Value} (hb : Below a.heap.size a b) (h : a.cell? ⟨k, o, none⟩ = some v) (hf : a.frozen? ⟨k, o, none⟩ = false) : b.frozen? ⟨k, o, none⟩ = false :=
  (hb.frozen (p := ⟨k, o, none⟩) (World.block_lt_of_cell? a _ h)).trans hf
set_option maxHeartbeats 1000000 in
theorem C5.put {W : World} {k : Nat} {a b c d e : Int} (h : C5 W k a b c d e) (a' b' c' d' e' : Int) : C5 (((((W.setCell ⟨k, 0, none⟩ (.int .i64 a')).setCell ⟨k, 1, none⟩ (.int .i64 b')).setCell ⟨k, 2, none⟩ (.int .i64 c')).setCell ⟨k, 3, none⟩ (.int .i64 d')).setCell ⟨k, 4, none⟩ (.int .i64 e')) k a' b' c' d' e' := by
  obtain ⟨h0, h1, h2, h3, h4, h5, h6, h7, h8, h9⟩ := h
  exact ⟨by go_simp, by go_simp, by go_simp, by go_simp, by go_simp, by go_simp, by go_simp, by go_simp, by go_simp, by go_simp⟩
theorem C5.far {W : World} {k g : Nat} {a b c d e : Int} {v0 v1 v2 v3 v4 : Value} (h : C5 W k a b c d e) (hne : g ≠ k) : C5 (((((W.setCell ⟨g, 0, none⟩ v0).setCell ⟨g, 1, none⟩ v1).setCell ⟨g, 2, none⟩ v2).setCell ⟨g, 3, none⟩ v3).setCell ⟨g, 4, none⟩ v4) k a b c d e :=
  ⟨ks5 hne h.c0, ks5 hne h.c1, ks5 hne h.c2, ks5 hne h.c3, ks5 hne h.c4, by simp [h.f0], by simp [h.f1], by simp [h.f2], by simp [h.f3], by simp [h.f4]⟩
theorem C5.monos {W W' : World} {k g : Nat} {u : Value} {a b c d e : Int} (h : C5 W k a b c d e) (hne : g ≠ k) (hb : Below W.heap.size (W.setCell ⟨g, 0, none⟩ u) W') : C5 W' k a b c d e :=
  ⟨kcs hb hne h.c0, kcs hb hne h.c1, kcs hb hne h.c2, kcs hb hne h.c3, kcs hb hne h.c4, kfs hb h.lt h.f0, kfs hb h.lt h.f1, kfs hb h.lt h.f2, kfs hb h.lt h.f3, kfs hb h.lt h.f4⟩
theorem C5.drew {W : World} {k : Nat} {a b c d e : Int} (h : C5 W k a b c d e) : C5 W.drew k a b c d e := ⟨h.c0, h.c1, h.c2, h.c3, h.c4, h.f0, h.f1, h.f2, h.f3, h.f4⟩

set_option maxRecDepth 100000 in
set_option maxHeartbeats 2000000 in
theorem lrt (a b c d : Int) (w : World) (hx : vr a b c d = true) :
    Calls Try.prog 169 #[rg a b c d] w fun ee w' => ee = .returned (rg (b - d) (a + c) (b + d) (c - a)) ∧ Below w.heap.size w w' := by
  obtain ⟨⟨a1, a2⟩, ⟨b1, b2⟩, ⟨c1, c2⟩, ⟨d1, d2⟩⟩ := vr_iff.1 hx
  have HX := hid hx
  clear hx
  go_enter Try.func169, Try.ntmps169
  go_wp2_with (first | go_in)
  refine bodyPost_ret (v := rg (b - d) (a + c) (b + d) (c - a)) (by first | (simp [results, Try.results169, go_sem, *]; done) | (simp (disch := (first | omega | (simp; done) | (simp; omega))) [results, Try.results169, go_sem, *]; done) | (simp only [results, Try.results169]; go_simp; done)) rfl ⟨rfl, ?_⟩
  repeat' (first | (with_reducible exact Below.refl _ _) | (with_reducible refine Below.alloc ?_ ?_ _) | (with_reducible refine Below.drew ?_) | (with_reducible refine Below.setCell ?_ ?_ _) | (with_reducible refine chain ?_ (by assumption) ?_) | omega | (simp; done) | (simp; omega))

set_option maxRecDepth 100000 in
set_option maxHeartbeats 2000000 in
theorem ring_t (g : Nat) (a b c d : Int) (w : World) (hx : vr a b c d = true) :
    Calls Try.prog 167 #[.pointer (some ⟨g, 0, none⟩), rg a b c d] w fun ee w' => ee = .returned (rg a b c d) ∧ Below w.heap.size w w' := by
  have HX := hid hx
  clear hx
  go_enter Try.func167, Try.ntmps167
  go_wp2_with (first | (go_at_call 155; ((with_reducible refine (lg_t _ _ _ _ _ HX.out).mono ?_); rintro ee w1 ⟨rfl, hb1⟩; obtain ⟨hc1, hf1, _⟩ := bcell hb1; have hz1 := hb1.size; (try simp at hz1); (try have hx10 : w.heap.size < w1.heap.size := (by omega)); (try have hx11 : w.heap.size + 1 < w1.heap.size := (by omega)); (try have hx12 : w.heap.size + 1 + 1 < w1.heap.size := (by omega)); (try have hx13 : w.heap.size + 1 + 1 + 1 < w1.heap.size := (by omega)))) | go_in)
  refine bodyPost_ret (v := rg a b c d) (by first | (simp [results, Try.results167, go_sem, *]; done) | (simp (disch := (first | omega | (simp; done) | (simp; omega))) [results, Try.results167, go_sem, *]; done) | (simp only [results, Try.results167]; go_simp; done)) rfl ⟨rfl, ?_⟩
  repeat' (first | (with_reducible exact Below.refl _ _) | (with_reducible refine Below.alloc ?_ ?_ _) | (with_reducible refine Below.drew ?_) | (with_reducible refine Below.setCell ?_ ?_ _) | (with_reducible refine chain ?_ (by assumption) ?_) | omega | (simp; done) | (simp; omega))

set_option maxRecDepth 100000 in
set_option maxHeartbeats 2000000 in
theorem ring_f (g : Nat) (a b c d : Int) (z : Bool) (w : World) (h0 : w.cell? ⟨g, 0, none⟩ = some (.bool z)) (f0 : w.frozen? ⟨g, 0, none⟩ = false) (hx : vr a b c d = false) :
    Calls Try.prog 167 #[.pointer (some ⟨g, 0, none⟩), rg a b c d] w fun ee w' => ee = .returned (rg 0 0 0 0) ∧ Below w.heap.size (w.setCell ⟨g, 0, none⟩ (.bool true)) w' := by
  have hg := World.block_lt_of_cell? w _ h0
  have hg2 : g < w.heap.size := hg
  have HX := hid hx
  clear hx
  go_enter Try.func167, Try.ntmps167
  go_wp2_with (first | (go_at_call 155; ((with_reducible refine (lg_f _ _ _ _ _ HX.out).mono ?_); rintro ee w1 ⟨rfl, hb1⟩; obtain ⟨hc1, hf1, _⟩ := bcell hb1; have hz1 := hb1.size; (try simp at hz1); (try have hx10 : w.heap.size < w1.heap.size := (by omega)); (try have hx11 : w.heap.size + 1 < w1.heap.size := (by omega)); (try have hx12 : w.heap.size + 1 + 1 < w1.heap.size := (by omega)); (try have hx13 : w.heap.size + 1 + 1 + 1 < w1.heap.size := (by omega)); have gc1 : w1.cell? ⟨g, 0, none⟩ = some (.bool z) := (by rw [hc1 _ _ (by first | omega | (simp; done) | (simp; omega))]; first | assumption | go_simp); have gf1 : w1.frozen? ⟨g, 0, none⟩ = false := (by rw [hf1 _ _ (by first | omega | (simp; done) | (simp; omega))]; first | assumption | go_simp))) | go_in)
  refine bodyPost_ret (v := rg 0 0 0 0) (by first | (simp [results, Try.results167, go_sem, *]; done) | (simp (disch := (first | omega | (simp; done) | (simp; omega))) [results, Try.results167, go_sem, *]; done) | (simp only [results, Try.results167]; go_simp; done)) rfl ⟨rfl, ?_⟩
  repeat' (first | (with_reducible assumption) | (with_reducible exact Below.refl _ _) | (with_reducible refine Below.alloc ?_ ?_ _) | (with_reducible refine Below.drew ?_) | (with_reducible refine both ?_ _ _ ?_ _) | (with_reducible refine Below.setCell ?_ ?_ _) | (with_reducible refine chain2 ?_ (by with_reducible assumption) ?_) | (with_reducible refine chain ?_ (by with_reducible assumption) ?_) | omega | (simp; done) | (simp; omega))

end Go.Proofs.Ytofclfgaekjonaa
namespace Go.Proofs.Ytofclfgaekjonaa
open Go.RowKit RM
set_option linter.unusedVariables false
set_option linter.unusedSimpArgs false

set_option maxRecDepth 100000 in
set_option maxHeartbeats 2000000 in
theorem add_i_t (a b c d p q r s : Int) (w : World) (hx : vr a b c d = true) (hy : vr p q r s = true) (hv : vr (a + p) (b + q) (c + r) (d + s) = true) :
    Calls Try.prog 177 #[rg a b c d, rg p q r s] w fun e w' => e = .returned (rt (a + p) (b + q) (c + r) (d + s) true) ∧ Below w.heap.size w w' := by
  obtain ⟨⟨a1, a2⟩, ⟨b1, b2⟩, ⟨c1, c2⟩, ⟨d1, d2⟩⟩ := vr_iff.1 hx
  obtain ⟨⟨p1, p2⟩, ⟨q1, q2⟩, ⟨r1, r2⟩, ⟨s1, s2⟩⟩ := vr_iff.1 hy
  have HX := hid hx
  clear hx
  have HY := hid hy
  clear hy
  have HV := hid hv
  clear hv
  go_enter Try.func177, Try.ntmps177
  go_wp2_with (first | (go_at_call 172; ((with_reducible refine (iv_t _ _ _ _ _ HX.out).mono ?_); rintro e w1 ⟨rfl, hb1⟩; obtain ⟨hc1, hf1, _⟩ := bcell hb1; have hz1 := hb1.size; (try simp at hz1); (try have hx10 : w.heap.size < w1.heap.size := (by omega)); (try have hx11 : w.heap.size + 1 < w1.heap.size := (by omega)); (try have hx12 : w.heap.size + 1 + 1 < w1.heap.size := (by omega)); (try have hx13 : w.heap.size + 1 + 1 + 1 < w1.heap.size := (by omega)))) | (go_at_call 172; ((with_reducible refine (iv_t _ _ _ _ _ HY.out).mono ?_); rintro e w2 ⟨rfl, hb2⟩; obtain ⟨hc2, hf2, _⟩ := bcell hb2; have hz2 := hb2.size; (try simp at hz2); (try have hx20 : w.heap.size < w2.heap.size := (by omega)); (try have hx21 : w.heap.size + 1 < w2.heap.size := (by omega)); (try have hx22 : w.heap.size + 1 + 1 < w2.heap.size := (by omega)); (try have hx23 : w.heap.size + 1 + 1 + 1 < w2.heap.size := (by omega)))) | (go_at_call 178; ((with_reducible refine (ro_t _ _ _ _ _ HV.out).mono ?_); rintro e w4 ⟨rfl, hb4⟩; obtain ⟨hc4, hf4, _⟩ := bcell hb4; have hz4 := hb4.size; (try simp at hz4); (try have hx40 : w.heap.size < w4.heap.size := (by omega)); (try have hx41 : w.heap.size + 1 < w4.heap.size := (by omega)); (try have hx42 : w.heap.size + 1 + 1 < w4.heap.size := (by omega)); (try have hx43 : w.heap.size + 1 + 1 + 1 < w4.heap.size := (by omega)); have zc0 : w4.cell? ⟨w.heap.size + 1 + 1, 0, none⟩ = some (.int .i64 0) := (by rw [hc4 _ _ (by first | omega | (simp; omega))]; go_simp); have zc1 : w4.cell? ⟨w.heap.size + 1 + 1, 1, none⟩ = some (.int .i64 0) := (by rw [hc4 _ _ (by first | omega | (simp; omega))]; go_simp); have zc2 : w4.cell? ⟨w.heap.size + 1 + 1, 2, none⟩ = some (.int .i64 0) := (by rw [hc4 _ _ (by first | omega | (simp; omega))]; go_simp); have zc3 : w4.cell? ⟨w.heap.size + 1 + 1, 3, none⟩ = some (.int .i64 0) := (by rw [hc4 _ _ (by first | omega | (simp; omega))]; go_simp); have zf0 : w4.frozen? ⟨w.heap.size + 1 + 1, 0, none⟩ = false := (by rw [hf4 _ _ (by first | omega | (simp; omega))]; go_simp); have zf1 : w4.frozen? ⟨w.heap.size + 1 + 1, 1, none⟩ = false := (by rw [hf4 _ _ (by first | omega | (simp; omega))]; go_simp); have zf2 : w4.frozen? ⟨w.heap.size + 1 + 1, 2, none⟩ = false := (by rw [hf4 _ _ (by first | omega | (simp; omega))]; go_simp); have zf3 : w4.frozen? ⟨w.heap.size + 1 + 1, 3, none⟩ = false := (by rw [hf4 _ _ (by first | omega | (simp; omega))]; go_simp))) | go_in)
  refine bodyPost_ret (v := rt (a + p) (b + q) (c + r) (d + s) true) (by first | (simp [results, Try.results177, go_sem, *]; done) | (simp (disch := (first | omega | (simp; done) | (simp; omega))) [results, Try.results177, go_sem, *]; done) | (simp only [results, Try.results177]; go_simp; done)) rfl ⟨rfl, ?_⟩
  repeat' (first | (with_reducible exact Below.refl _ _) | (with_reducible refine Below.alloc ?_ ?_ _) | (with_reducible refine Below.drew ?_) | (with_reducible refine Below.setCell ?_ ?_ _) | (with_reducible refine chain ?_ (by assumption) ?_) | omega | (simp; done) | (simp; omega))

set_option maxRecDepth 100000 in
set_option maxHeartbeats 2000000 in
theorem add_i_o (a b c d p q r s : Int) (w : World) (hx : vr a b c d = true) (hy : vr p q r s = true) (hv : vr (a + p) (b + q) (c + r) (d + s) = false) :
    Calls Try.prog 177 #[rg a b c d, rg p q r s] w fun e w' => e = .returned (rt 0 0 0 0 false) ∧ Below w.heap.size w w' := by
  obtain ⟨⟨a1, a2⟩, ⟨b1, b2⟩, ⟨c1, c2⟩, ⟨d1, d2⟩⟩ := vr_iff.1 hx
  obtain ⟨⟨p1, p2⟩, ⟨q1, q2⟩, ⟨r1, r2⟩, ⟨s1, s2⟩⟩ := vr_iff.1 hy
  have HX := hid hx
  clear hx
  have HY := hid hy
  clear hy
  have HV := hid hv
  clear hv
  go_enter Try.func177, Try.ntmps177
  go_wp2_with (first | (go_at_call 172; ((with_reducible refine (iv_t _ _ _ _ _ HX.out).mono ?_); rintro e w1 ⟨rfl, hb1⟩; obtain ⟨hc1, hf1, _⟩ := bcell hb1; have hz1 := hb1.size; (try simp at hz1); (try have hx10 : w.heap.size < w1.heap.size := (by omega)); (try have hx11 : w.heap.size + 1 < w1.heap.size := (by omega)); (try have hx12 : w.heap.size + 1 + 1 < w1.heap.size := (by omega)); (try have hx13 : w.heap.size + 1 + 1 + 1 < w1.heap.size := (by omega)))) | (go_at_call 172; ((with_reducible refine (iv_t _ _ _ _ _ HY.out).mono ?_); rintro e w2 ⟨rfl, hb2⟩; obtain ⟨hc2, hf2, _⟩ := bcell hb2; have hz2 := hb2.size; (try simp at hz2); (try have hx20 : w.heap.size < w2.heap.size := (by omega)); (try have hx21 : w.heap.size + 1 < w2.heap.size := (by omega)); (try have hx22 : w.heap.size + 1 + 1 < w2.heap.size := (by omega)); (try have hx23 : w.heap.size + 1 + 1 + 1 < w2.heap.size := (by omega)))) | (go_at_call 178; ((with_reducible refine (ro_f _ _ _ _ _ HV.out).mono ?_); rintro e w4 ⟨rfl, hb4⟩; obtain ⟨hc4, hf4, _⟩ := bcell hb4; have hz4 := hb4.size; (try simp at hz4); (try have hx40 : w.heap.size < w4.heap.size := (by omega)); (try have hx41 : w.heap.size + 1 < w4.heap.size := (by omega)); (try have hx42 : w.heap.size + 1 + 1 < w4.heap.size := (by omega)); (try have hx43 : w.heap.size + 1 + 1 + 1 < w4.heap.size := (by omega)); have zc0 : w4.cell? ⟨w.heap.size + 1 + 1, 0, none⟩ = some (.int .i64 0) := (by rw [hc4 _ _ (by first | omega | (simp; omega))]; go_simp); have zc1 : w4.cell? ⟨w.heap.size + 1 + 1, 1, none⟩ = some (.int .i64 0) := (by rw [hc4 _ _ (by first | omega | (simp; omega))]; go_simp); have zc2 : w4.cell? ⟨w.heap.size + 1 + 1, 2, none⟩ = some (.int .i64 0) := (by rw [hc4 _ _ (by first | omega | (simp; omega))]; go_simp); have zc3 : w4.cell? ⟨w.heap.size + 1 + 1, 3, none⟩ = some (.int .i64 0) := (by rw [hc4 _ _ (by first | omega | (simp; omega))]; go_simp); have zf0 : w4.frozen? ⟨w.heap.size + 1 + 1, 0, none⟩ = false := (by rw [hf4 _ _ (by first | omega | (simp; omega))]; go_simp); have zf1 : w4.frozen? ⟨w.heap.size + 1 + 1, 1, none⟩ = false := (by rw [hf4 _ _ (by first | omega | (simp; omega))]; go_simp); have zf2 : w4.frozen? ⟨w.heap.size + 1 + 1, 2, none⟩ = false := (by rw [hf4 _ _ (by first | omega | (simp; omega))]; go_simp); have zf3 : w4.frozen? ⟨w.heap.size + 1 + 1, 3, none⟩ = false := (by rw [hf4 _ _ (by first | omega | (simp; omega))]; go_simp))) | go_in)
  refine bodyPost_ret (v := rt 0 0 0 0 false) (by first | (simp [results, Try.results177, go_sem, *]; done) | (simp (disch := (first | omega | (simp; done) | (simp; omega))) [results, Try.results177, go_sem, *]; done) | (simp only [results, Try.results177]; go_simp; done)) rfl ⟨rfl, ?_⟩
  repeat' (first | (with_reducible exact Below.refl _ _) | (with_reducible refine Below.alloc ?_ ?_ _) | (with_reducible refine Below.drew ?_) | (with_reducible refine Below.setCell ?_ ?_ _) | (with_reducible refine chain ?_ (by assumption) ?_) | omega | (simp; done) | (simp; omega))

end Go.Proofs.Ytofclfgaekjonaa
