/- QGv, Oa, Ob, Te3 -/
import Derived.Test.YtofclfgaekjonaaZp23
import Derived.Test.YtofclfgaekjonaaZp18
import Derived.Test.YtofclfgaekjonaaZp20
import Derived.Test.YtofclfgaekjonaaZp22
import Derived.Test.YtofclfgaekjonaaZp15
namespace Go.Proofs.Ytofclfgaekjonaa.C4
open Go.RowKit
set_option linter.unusedVariables false
set_option linter.unusedSimpArgs false
attribute [local irreducible] World.setCell

/-- a valid circuit of n gates -/
def okC (q : Int) (n : Nat) (xs : List GateV) : Bool := inB q 1 5 && decide (n ≤ 400) && xs.all (gB q)
theorem okC_q {q : Int} {n : Nat} {xs : List GateV} (h : inB q 1 5 = false) : okC q n xs = false := by unfold okC; rw [h]; rfl
theorem okC_n {q : Int} {n : Nat} {xs : List GateV} (h : 400 < n) : okC q n xs = false := by
  unfold okC; rw [decide_eq_false (by omega)]; simp
theorem okC_l {q : Int} {n : Nat} {xs : List GateV} (h : inB q 1 5 = true) (h2 : n ≤ 400) : okC q n xs = xs.all (gB q) := by
  unfold okC; rw [h, decide_eq_true h2]; rfl
theorem okC_iff {q : Int} {n : Nat} {xs : List GateV} : okC q n xs = true ↔ 1 ≤ q ∧ q ≤ 5 ∧ n ≤ 400 ∧ ∀ (i : Nat) (g : GateV), xs[i]? = some g → gB q g = true := by
  unfold okC
  simp only [Bool.and_eq_true, inB_iff, decide_eq_true_eq, List.all_eq_true]
  constructor
  · rintro ⟨⟨⟨h1, h2⟩, h3⟩, h4⟩
    exact ⟨h1, h2, h3, fun i g hg => h4 g (List.mem_of_getElem? hg)⟩
  · rintro ⟨h1, h2, h3, h4⟩
    refine ⟨⟨⟨h1, h2⟩, h3⟩, fun g hg => ?_⟩
    obtain ⟨i, hi, he⟩ := List.getElem_of_mem hg
    exact h4 i g (by rw [List.getElem?_eq_getElem hi, he])
theorem all_at {q : Int} {xs : List GateV} {j : Nat} {x : GateV} (hx : xs[j]? = some x) (h : gB q x = false) : xs.all (gB q) = false := by
  rw [List.all_eq_false]
  exact ⟨x, List.mem_of_getElem? hx, by rw [h]; decide⟩
theorem all_of {q : Int} {xs : List GateV} (h : ∀ (i : Nat) (g : GateV), xs[i]? = some g → gB q g = true) : xs.all (gB q) = true := by
  rw [List.all_eq_true]
  intro g hg
  obtain ⟨i, hi, he⟩ := List.getElem_of_mem hg
  exact h i g (by rw [List.getElem?_eq_getElem hi, he])
set_option maxRecDepth 100000 in
set_option maxHeartbeats 4000000 in
theorem vcs {a0 : Int} {A1 : Option Addr} {n1 c1 : Nat} {xs : List GateV} {t : Bool} {w : World} (h : okC a0 n1 xs = t) (hA : Rd gateE w A1 xs) (hn : xs.length = n1) (hm : n1 ≤ maxLen) :
    Calls Try.prog 112 #[circuitV a0 A1 n1 c1] w fun ee w' => ee = .returned (.bool t) ∧ Below w.heap.size w w' := by
  have hu : n1 ≤ 9223372036854775807 := by unfold maxLen at hm; omega
  cases hq : inB a0 1 5
  · have HT : Hid (false = t) := by rw [← h, okC_q hq]; rfl
    have HQ := lay hq
    clear h hA hn hq
    go_enter Try.func112, Try.ntmps112
    go_wp2_with ((go_at_call 100; ((with_reducible refine (lin HQ.out _).mono ?_); rintro ee w1 ⟨rfl, rfl⟩)))
    go_ret
    refine ⟨ret_bool HT.out, ?_⟩
    (repeat' (first | (with_reducible exact Below.refl _ _) | (with_reducible assumption) | (with_reducible refine Below.alloc ?_ ?_ _) | (with_reducible refine Below.drew ?_) | (with_reducible refine bdN ?_ _) | (with_reducible refine Below.setCell ?_ ?_ _) | (with_reducible refine chn ?_ (by assumption) ?_) | omega | (simp; done) | (simp; omega)))
  by_cases h4 : 400 < n1
  · have HT : Hid (false = t) := by rw [← h, okC_n h4]; rfl
    have HQ := lay hq
    have h5 : (400 : Int) < (n1 : Int) := by omega
    clear h hA hn hq
    go_enter Try.func112, Try.ntmps112
    go_wp2_with ((go_at_call 100; ((with_reducible refine (lin HQ.out _).mono ?_); rintro ee w1 ⟨rfl, rfl⟩)))
    go_ret
    refine ⟨ret_bool HT.out, ?_⟩
    (repeat' (first | (with_reducible exact Below.refl _ _) | (with_reducible assumption) | (with_reducible refine Below.alloc ?_ ?_ _) | (with_reducible refine Below.drew ?_) | (with_reducible refine bdN ?_ _) | (with_reducible refine Below.setCell ?_ ?_ _) | (with_reducible refine chn ?_ (by assumption) ?_) | omega | (simp; done) | (simp; omega)))
  rw [okC_l hq (by omega)] at h
  obtain ⟨q1, q5⟩ := inB_iff.1 hq
  have hb : n1 ≤ 400 := by omega
  have h6 : ¬ ((400 : Int) < (n1 : Int)) := by omega
  have HT := lay h
  have HQ := lay hq
  have HA := lay hA
  have HN := lay hn
  clear h hA hn hq
  go_enter Try.func112, Try.ntmps112
  go_wp2_with (first | (go_at_call 100; ((with_reducible refine (lin HQ.out _).mono ?_); rintro ee w1 ⟨rfl, rfl⟩)) | fail)
  go_loopg [18] n1 (fun k s1 wr => ∃ j : Nat, j + k = n1 ∧ s1 = .int .i64 (j : Int) ∧ Hid (∀ (i : Nat) (g : GateV), i < j → xs[i]? = some g → gB a0 g = true) ∧ Hid (Bb wr (w.heap.size) 42 #[.int .i64 a0, .slice A1 n1 c1]) ∧ Below w.heap.size w wr)
  case atStart => exact ⟨0, by omega, rfl, fun i g hi => absurd hi (Nat.not_lt_zero i), (by show Bb _ _ _ _; (repeat' (first | (with_reducible assumption) | (refine Bb.new (by first | (with_reducible rfl) | (simp; done))) | (with_reducible refine Bb.alloc ?_ _) | (with_reducible refine Bb.drew ?_) | (with_reducible refine Bb.drewN ?_ _) | (with_reducible refine Bb.mono ?_ (by assumption)) | (with_reducible refine Bb.far ?_ (by (try simp only [World.size_alloc, World.size_drew]); omega)) | (with_reducible refine Bb.set ?_ rfl) | (with_reducible refine Bb.grown ?_ (by assumption) (by assumption))))), by (repeat' (first | (with_reducible exact Below.refl _ _) | (with_reducible assumption) | (with_reducible refine Below.alloc ?_ ?_ _) | (with_reducible refine Below.drew ?_) | (with_reducible refine bdN ?_ _) | (with_reducible refine Below.setCell ?_ ?_ _) | (with_reducible refine chn ?_ (by assumption) ?_) | omega | (simp; done) | (simp; omega)))⟩
  case round =>
    obtain ⟨j, hj, rfl, HJ, Xa, hB⟩ := hrel
    have hBz := hB.size
    have ca0 := Xa.out.c 0 rfl
    have ca1 := Xa.out.c 1 rfl
    have la := Xa.out.lt
    cases gk with
    | zero =>
      obtain rfl : j = n1 := by omega
      have HH : Hid (true = t) := by rw [← HT.out]; exact (all_of (fun i g hg => HJ.out i g (by have := (List.getElem?_eq_some_iff.1 hg).1; rw [HN.out] at this; exact this) hg)).symm
      go_wp2_with (fail)
      go_ret
      exact ⟨ret_bool HH.out, hB⟩
    | succ m =>
      have hlt : j < n1 := by omega
      obtain ⟨x, hx⟩ : ∃ x, xs[j]? = some x := ⟨_, List.getElem?_eq_getElem (by rw [HN.out]; exact hlt)⟩
      obtain ⟨g, o, rfl, hgw, hC⟩ := HA.out.atGate hx
      have hC' : wr.cell? ⟨g, o + j * 3, none⟩ = some (.int .i64 x.f0) ∧ wr.cell? ⟨g, o + j * 3 + 1, none⟩ = some (.int .i64 x.f1) ∧ wr.cell? ⟨g, o + j * 3 + 2, none⟩ = some (.int .i64 x.f2) := ⟨(World.cell?_of_block (hB.block g hgw)).trans hC.1, (World.cell?_of_block (hB.block g hgw)).trans hC.2.1, (World.cell?_of_block (hB.block g hgw)).trans hC.2.2⟩
      obtain ⟨q0, q1', q2⟩ := hC'
      clear hC
      have HX := lay hx
      clear hx
      cases hk : gB a0 x
      · have HK := lay hk
        have HH : Hid (false = t) := by rw [← HT.out]; exact (all_at HX.out (by exact HK.out)).symm
        clear hk
        go_wp2_with ((go_at_call 159; ((with_reducible refine (lg HK.out q1 q5 _).mono ?_); rintro ee w4 ⟨rfl, hb4⟩)))
        go_ret
        refine ⟨ret_bool HH.out, ?_⟩
        (repeat' (first | (with_reducible exact Below.refl _ _) | (with_reducible assumption) | (with_reducible refine Below.alloc ?_ ?_ _) | (with_reducible refine Below.drew ?_) | (with_reducible refine bdN ?_ _) | (with_reducible refine Below.setCell ?_ ?_ _) | (with_reducible refine chn ?_ (by assumption) ?_) | omega | (simp; done) | (simp; omega)))
      · have HK := lay hk
        clear hk
        go_wp2_with ((go_at_call 159; ((with_reducible refine (lg HK.out q1 q5 _).mono ?_); rintro ee w4 ⟨rfl, hb4⟩)))
        have hW : Below wr.heap.size wr w4 := by (repeat' (first | (with_reducible exact Below.refl _ _) | (with_reducible assumption) | (with_reducible refine Below.alloc ?_ ?_ _) | (with_reducible refine Below.drew ?_) | (with_reducible refine bdN ?_ _) | (with_reducible refine Below.setCell ?_ ?_ _) | (with_reducible refine chn ?_ (by assumption) ?_) | omega | (simp; done) | (simp; omega)))
        go_roundg m
        case measure => omega
        case rel =>
          refine ⟨j + 1, by omega, by go_num, fun i g hi hg => ?_, Xa.out.mono hW, ?_⟩
          · by_cases e : i = j
            · subst e; rw [HX.out] at hg; cases hg; exact HK.out
            · exact HJ.out i g (by omega) hg
          · exact chn hB hW hB.size

set_option maxRecDepth 100000 in
set_option maxHeartbeats 4000000 in
theorem vci {a0 : Int} {A1 : Option Addr} {n1 c1 : Nat} {xs : List GateV} {t : Bool} {w : World} (h : okC a0 n1 xs = t) (hA : Rd gateE w A1 xs) (hn : xs.length = n1) (hm : n1 ≤ maxLen) :
    Calls Try.prog 118 #[circuitV a0 A1 n1 c1] w fun ee w' => ee = .returned (.bool t) ∧ Below w.heap.size w w' := by
  have hu : n1 ≤ 9223372036854775807 := by unfold maxLen at hm; omega
  cases hq : inB a0 1 5
  · have HT : Hid (false = t) := by rw [← h, okC_q hq]; rfl
    have HQ := lay hq
    clear h hA hn hq
    go_enter Try.func118, Try.ntmps118
    go_wp2_with ((go_at_call 148; ((with_reducible refine (iqc HQ.out _).mono ?_); rintro ee w1 ⟨rfl, rfl⟩)))
    go_ret
    refine ⟨ret_bool HT.out, ?_⟩
    (repeat' (first | (with_reducible exact Below.refl _ _) | (with_reducible assumption) | (with_reducible refine Below.alloc ?_ ?_ _) | (with_reducible refine Below.drew ?_) | (with_reducible refine bdN ?_ _) | (with_reducible refine Below.setCell ?_ ?_ _) | (with_reducible refine chn ?_ (by assumption) ?_) | omega | (simp; done) | (simp; omega)))
  by_cases h4 : 400 < n1
  · have HT : Hid (false = t) := by rw [← h, okC_n h4]; rfl
    have HQ := lay hq
    have h5 : (400 : Int) < (n1 : Int) := by omega
    clear h hA hn hq
    go_enter Try.func118, Try.ntmps118
    go_wp2_with ((go_at_call 148; ((with_reducible refine (iqc HQ.out _).mono ?_); rintro ee w1 ⟨rfl, rfl⟩)))
    go_ret
    refine ⟨ret_bool HT.out, ?_⟩
    (repeat' (first | (with_reducible exact Below.refl _ _) | (with_reducible assumption) | (with_reducible refine Below.alloc ?_ ?_ _) | (with_reducible refine Below.drew ?_) | (with_reducible refine bdN ?_ _) | (with_reducible refine Below.setCell ?_ ?_ _) | (with_reducible refine chn ?_ (by assumption) ?_) | omega | (simp; done) | (simp; omega)))
  rw [okC_l hq (by omega)] at h
  obtain ⟨q1, q5⟩ := inB_iff.1 hq
  have hb : n1 ≤ 400 := by omega
  have h6 : ¬ ((400 : Int) < (n1 : Int)) := by omega
  have HT := lay h
  have HQ := lay hq
  have HA := lay hA
  have HN := lay hn
  clear h hA hn hq
  go_enter Try.func118, Try.ntmps118
  go_wp2_with (first | (go_at_call 148; ((with_reducible refine (iqc HQ.out _).mono ?_); rintro ee w1 ⟨rfl, rfl⟩)) | fail)
  go_loopg [18] n1 (fun k s1 wr => ∃ j : Nat, j + k = n1 ∧ s1 = .int .i64 (j : Int) ∧ Hid (∀ (i : Nat) (g : GateV), i < j → xs[i]? = some g → gB a0 g = true) ∧ Hid (Bb wr (w.heap.size) 42 #[.int .i64 a0, .slice A1 n1 c1]) ∧ Below w.heap.size w wr)
  case atStart => exact ⟨0, by omega, rfl, fun i g hi => absurd hi (Nat.not_lt_zero i), (by show Bb _ _ _ _; (repeat' (first | (with_reducible assumption) | (refine Bb.new (by first | (with_reducible rfl) | (simp; done))) | (with_reducible refine Bb.alloc ?_ _) | (with_reducible refine Bb.drew ?_) | (with_reducible refine Bb.drewN ?_ _) | (with_reducible refine Bb.mono ?_ (by assumption)) | (with_reducible refine Bb.far ?_ (by (try simp only [World.size_alloc, World.size_drew]); omega)) | (with_reducible refine Bb.set ?_ rfl) | (with_reducible refine Bb.grown ?_ (by assumption) (by assumption))))), by (repeat' (first | (with_reducible exact Below.refl _ _) | (with_reducible assumption) | (with_reducible refine Below.alloc ?_ ?_ _) | (with_reducible refine Below.drew ?_) | (with_reducible refine bdN ?_ _) | (with_reducible refine Below.setCell ?_ ?_ _) | (with_reducible refine chn ?_ (by assumption) ?_) | omega | (simp; done) | (simp; omega)))⟩
  case round =>
    obtain ⟨j, hj, rfl, HJ, Xa, hB⟩ := hrel
    have hBz := hB.size
    have ca0 := Xa.out.c 0 rfl
    have ca1 := Xa.out.c 1 rfl
    have la := Xa.out.lt
    cases gk with
    | zero =>
      obtain rfl : j = n1 := by omega
      have HH : Hid (true = t) := by rw [← HT.out]; exact (all_of (fun i g hg => HJ.out i g (by have := (List.getElem?_eq_some_iff.1 hg).1; rw [HN.out] at this; exact this) hg)).symm
      go_wp2_with (fail)
      go_ret
      exact ⟨ret_bool HH.out, hB⟩
    | succ m =>
      have hlt : j < n1 := by omega
      obtain ⟨x, hx⟩ : ∃ x, xs[j]? = some x := ⟨_, List.getElem?_eq_getElem (by rw [HN.out]; exact hlt)⟩
      obtain ⟨g, o, rfl, hgw, hC⟩ := HA.out.atGate hx
      have hC' : wr.cell? ⟨g, o + j * 3, none⟩ = some (.int .i64 x.f0) ∧ wr.cell? ⟨g, o + j * 3 + 1, none⟩ = some (.int .i64 x.f1) ∧ wr.cell? ⟨g, o + j * 3 + 2, none⟩ = some (.int .i64 x.f2) := ⟨(World.cell?_of_block (hB.block g hgw)).trans hC.1, (World.cell?_of_block (hB.block g hgw)).trans hC.2.1, (World.cell?_of_block (hB.block g hgw)).trans hC.2.2⟩
      obtain ⟨q0, q1', q2⟩ := hC'
      clear hC
      have HX := lay hx
      clear hx
      cases hk : vgB a0 x
      · have HK := lay hk
        have HH : Hid (false = t) := by rw [← HT.out]; exact (all_at HX.out (by have := HK.out; unfold vgB at this; rw [HQ.out] at this; exact this)).symm
        clear hk
        go_wp2_with ((go_at_call 162; ((with_reducible refine (ivg HK.out _).mono ?_); rintro ee w4 ⟨rfl, hb4⟩)))
        go_ret
        refine ⟨ret_bool HH.out, ?_⟩
        (repeat' (first | (with_reducible exact Below.refl _ _) | (with_reducible assumption) | (with_reducible refine Below.alloc ?_ ?_ _) | (with_reducible refine Below.drew ?_) | (with_reducible refine bdN ?_ _) | (with_reducible refine Below.setCell ?_ ?_ _) | (with_reducible refine chn ?_ (by assumption) ?_) | omega | (simp; done) | (simp; omega)))
      · have HK := lay hk
        clear hk
        go_wp2_with ((go_at_call 162; ((with_reducible refine (ivg HK.out _).mono ?_); rintro ee w4 ⟨rfl, hb4⟩)))
        have hW : Below wr.heap.size wr w4 := by (repeat' (first | (with_reducible exact Below.refl _ _) | (with_reducible assumption) | (with_reducible refine Below.alloc ?_ ?_ _) | (with_reducible refine Below.drew ?_) | (with_reducible refine bdN ?_ _) | (with_reducible refine Below.setCell ?_ ?_ _) | (with_reducible refine chn ?_ (by assumption) ?_) | omega | (simp; done) | (simp; omega)))
        go_roundg m
        case measure => omega
        case rel =>
          refine ⟨j + 1, by omega, by go_num, fun i g hi hg => ?_, Xa.out.mono hW, ?_⟩
          · by_cases e : i = j
            · subst e; rw [HX.out] at hg; cases hg; have := HK.out; unfold vgB at this; rw [HQ.out] at this; exact this
            · exact HJ.out i g (by omega) hg
          · exact chn hB hW hB.size

end Go.Proofs.Ytofclfgaekjonaa.C4
namespace Go.Proofs.Ytofclfgaekjonaa
open Go.RowKit RM
set_option linter.unusedVariables false
set_option linter.unusedSimpArgs false
attribute [local irreducible] World.setCell

open GM
theorem cellC_ok17 : (allN 17 fun k => (cellC k).ok) = true := by decide +kernel
theorem one_le : (allN 9 fun k => allN 4 fun i => decide (one k i ≤ 16)) = true := by decide +kernel
theorem gS_le {n kd A B r c : Nat} (h : okG n kd A B) : gS n kd A B r c ≤ 16 := by
  obtain ⟨h1, h5, h3⟩ := h
  rcases h3 with ⟨k1, k8, hA, rfl⟩ | ⟨k9, k11, hA, hB, hne⟩ | ⟨rfl, rfl, rfl⟩
  · rw [gS_1 k1 k8]
    have b1 : bitS n r A ≤ 1 := by rcases bitS_01 (n := n) (c := r) (q := A) with h | h <;> omega
    have b2 : bitS n c A ≤ 1 := by rcases bitS_01 (n := n) (c := c) (q := A) with h | h <;> omega
    have := of_decide_eq_true (allN_get (allN_get one_le (k := kd) (by omega)) (k := 2 * bitS n r A + bitS n c A) (by omega))
    split <;> omega
  · have : kd = 9 ∨ kd = 10 ∨ kd = 11 := by omega
    rcases this with rfl | rfl | rfl
    · rw [gS_9]; (repeat' split) <;> omega
    · rw [gS_10]; (repeat' split) <;> omega
    · rw [gS_11]; (repeat' split) <;> omega
  · rw [gS_12]; split <;> omega
theorem gsF_ok {n D kd A B q : Nat} (h : okG n kd A B) : (gsF n D kd A B q).ok = true := allN_get cellC_ok17 (by have := gS_le (r := q / D) (c := q % D) h; omega)
/-- the matrix of a gate -/
def gmt (n D : Nat) (g : C4.GateV) : List D5 := tab (D * D) (gsF n D g.f0.toNat g.f1.toNat g.f2.toNat)
def stB (n D C : Nat) (g : C4.GateV) (xs : List D5) : Bool := anyB (D * C) (mmG D C (gmt n D g) xs)
def stF (n D C : Nat) (g : C4.GateV) (xs : List D5) : List D5 := tab (D * C) (mmF D C (gmt n D g) xs)
/-- gates applied one behind the other; none: a product failed -/
def apl (n D C : Nat) : List C4.GateV → List D5 → Option (List D5)
  | [], xs => some xs
  | g :: gs, xs => if stB n D C g xs then none else apl n D C gs (stF n D C g xs)
theorem apl_app {n D C : Nat} (hs : List C4.GateV) : ∀ (gs : List C4.GateV) (xs : List D5), apl n D C (gs ++ hs) xs = (apl n D C gs xs).bind (apl n D C hs) := by
  intro gs
  induction gs with
  | nil => intro xs; rfl
  | cons g gs ih =>
    intro xs
    show (if stB n D C g xs then none else apl n D C (gs ++ hs) (stF n D C g xs)) = (if stB n D C g xs then none else apl n D C gs (stF n D C g xs)).bind _
    split
    · rfl
    · exact ih _
theorem apl_take {n D C j : Nat} {gs : List C4.GateV} {g : C4.GateV} {xs ys : List D5} (hg : gs[j]? = some g) (h : apl n D C (gs.take j) xs = some ys) : apl n D C (gs.take (j + 1)) xs = if stB n D C g ys then none else some (stF n D C g ys) := by
  rw [List.take_add_one, hg, apl_app, h]
  show (if stB n D C g ys then none else apl n D C [] (stF n D C g ys)) = _
  rfl
theorem apl_none {n D C j : Nat} {gs : List C4.GateV} {xs : List D5} (h : apl n D C (gs.take j) xs = none) : apl n D C gs xs = none := by
  have := apl_app (n := n) (D := D) (C := C) (gs.drop j) (gs.take j) xs
  rw [List.take_append_drop, h] at this
  exact this
theorem getD_ok {xs : List D5} (h : allB xs = true) (q : Nat) : (xs.getD q z5).ok = true := by
  by_cases hq : q < xs.length
  · exact all_get h (get_of hq)
  · rw [List.getD_eq_getElem?_getD, List.getElem?_eq_none (by omega)]; exact z5_ok
theorem mmT_okk {ca cb : Nat} {xs ys : List D5} {i j : Nat} {z : Bool} (hx : allB xs = true) (hy : allB ys = true) : ∀ k, (mmT ca cb xs ys i j z k).1.ok = true := by
  intro k
  induction k with
  | zero => exact z5_ok
  | succ k ih =>
    show (if (mmT ca cb xs ys i j z k).2 then mmT ca cb xs ys i j z k else addS _ _ _).1.ok = true
    split
    · exact ih
    · exact addS_ok ih (mulS_ok (getD_ok hx _) (getD_ok hy _))
theorem okM_tab {R C N : Nat} {F : Nat → D5} (hR : dimB (R : Int) = true) (hC : dimB (C : Int) = true) (hN : N = R * C) (h : ∀ q, (F q).ok = true) : okM (R : Int) (C : Int) N (tab N F) = true :=
  okM_iff.2 ⟨hR, hC, by rw [hN]; simp, allB_tab (fun q _ => h q)⟩
theorem gmt_okM {n D : Nat} {g : C4.GateV} (hD : dimB (D : Int) = true) (h : okG n g.f0.toNat g.f1.toNat g.f2.toNat) : okM (D : Int) (D : Int) (D * D) (gmt n D g) = true := okM_tab hD hD rfl (fun q => gsF_ok h)
theorem stF_okM {n D C : Nat} {g : C4.GateV} {xs : List D5} (hD : dimB (D : Int) = true) (hC : dimB (C : Int) = true) (h : okG n g.f0.toNat g.f1.toNat g.f2.toNat) (hx : allB xs = true) : okM (D : Int) (C : Int) (D * C) (stF n D C g xs) = true :=
  okM_tab hD hC rfl (fun q => mmT_okk (okM_iff.1 (gmt_okM hD h)).2.2.2 hx _)
theorem stF_len {n D C : Nat} {g : C4.GateV} {xs : List D5} : (stF n D C g xs).length = D * C := tab_len _ _
theorem own5_head {W : World} {base : Nat} {t : TypeId} {v : Value} {xs : List D5} (h : Own5 W base t v xs) (hn : 0 < xs.length) : ∃ g cap, v = .slice (some ⟨g, 0, none⟩) xs.length cap ∧ Rd W (some ⟨g, 0, none⟩) xs ∧ base ≤ g := by
  obtain ⟨A, cp, hv, hR, hB⟩ := Own5.form h
  obtain ⟨-, h2⟩ := h
  rcases h2 with ⟨-, h3⟩ | ⟨g, cap, cur, h3, h4, -⟩
  · omega
  · rw [hv] at h3
    injection h3 with e1 e2 e3
    subst e1
    exact ⟨g, cp, hv, hR, h4⟩

end Go.Proofs.Ytofclfgaekjonaa
namespace Go.Proofs.Ytofclfgaekjonaa
open Go.RowKit RM
set_option linter.unusedVariables false
set_option linter.unusedSimpArgs false
attribute [local irreducible] World.setCell

open GM
set_option maxRecDepth 100000 in
set_option maxHeartbeats 8000000 in
theorem lgate2 {n D NN kd A B : Nat} {w : World} (hok : okG n kd A B) (hD : D = 2 ^ n) (hNN : NN = D * D) :
    Calls Try.prog 160 #[.int .i64 (n : Int), .agg #[.int .i64 (kd : Int), .int .i64 (A : Int), .int .i64 (B : Int)]] w fun ee w' => ∃ g9 cq : Nat, ee = .returned (mv (D : Int) (D : Int) (some ⟨g9, 0, none⟩) NN cq) ∧ Rd w' (some ⟨g9, 0, none⟩) (tab NN (gsF n D kd A B)) ∧ w.heap.size ≤ g9 ∧ Below w.heap.size w w' := by
  obtain ⟨i0, hi0, hu0, hu1, hu2⟩ := info_parts infoD
  obtain ⟨d2, d32, dw, dw2, dd⟩ := pow_dim hok.1 hok.2.1 hD
  have h5 : (n : Int) ≤ 5 := by have := hok.2.1; omega
  have nn5 : NN ≤ 1024 := by rw [hNN]; exact Nat.mul_le_mul d32 d32
  have HOK := hid hok
  have HD := hid hD
  have EN := hid hNN
  clear hok hD hNN dd
  go_enter Try.func160, Try.ntmps160
  go_wp2_with (fail)
  go_loopg [7] D (fun q s1 wr => ∃ (i : Nat) (v : Value) (zs : List D5), i + q = D ∧ s1 = .int .i64 (i : Int) ∧ Hid (Bx wr (w.heap.size) 150 #[.int .i64 (kd : Int), .int .i64 (A : Int), .int .i64 (B : Int)]) ∧ Hid (Bx wr (w.heap.size + 1) 30 #[.int .i64 0, .int .i64 0, .slice none 0 0]) ∧ Hid (Bx wr (w.heap.size + 1 + 1) 30 #[.int .i64 (D : Int), .int .i64 (D : Int), v]) ∧ Hid (Own5 wr (w.heap.size + 1 + 1 + 1) 99 v zs) ∧ Hid (zs = tab (i * D) (gsF n D kd A B)) ∧ w.heap.size + 1 + 1 + 1 ≤ wr.heap.size ∧ Below w.heap.size w wr)
  case atStart => exact ⟨0, .slice none 0 0, [], by omega, rfl, (by show Bx _ _ _ _; (repeat' (first | (with_reducible assumption) | (refine Bx.new (by first | (with_reducible rfl) | (simp; done))) | (with_reducible refine Bx.alloc ?_ _) | (with_reducible refine Bx.drew ?_) | (with_reducible refine Bx.drewN ?_ _) | (with_reducible refine Bx.mono ?_ (by assumption)) | (with_reducible refine Bx.badly ?_ (by assumption) (by omega)) | (with_reducible refine Bx.far ?_ (by (try simp only [World.size_alloc, World.size_drew]); omega)) | (with_reducible refine Bx.set ?_ rfl) | (with_reducible refine Bx.grown ?_ (by assumption) (by assumption))))), (by show Bx _ _ _ _; (repeat' (first | (with_reducible assumption) | (refine Bx.new (by first | (with_reducible rfl) | (simp; done))) | (with_reducible refine Bx.alloc ?_ _) | (with_reducible refine Bx.drew ?_) | (with_reducible refine Bx.drewN ?_ _) | (with_reducible refine Bx.mono ?_ (by assumption)) | (with_reducible refine Bx.badly ?_ (by assumption) (by omega)) | (with_reducible refine Bx.far ?_ (by (try simp only [World.size_alloc, World.size_drew]); omega)) | (with_reducible refine Bx.set ?_ rfl) | (with_reducible refine Bx.grown ?_ (by assumption) (by assumption))))), (by show Bx _ _ _ _; (repeat' (first | (with_reducible assumption) | (refine Bx.new (by first | (with_reducible rfl) | (simp; done))) | (with_reducible refine Bx.alloc ?_ _) | (with_reducible refine Bx.drew ?_) | (with_reducible refine Bx.drewN ?_ _) | (with_reducible refine Bx.mono ?_ (by assumption)) | (with_reducible refine Bx.badly ?_ (by assumption) (by omega)) | (with_reducible refine Bx.far ?_ (by (try simp only [World.size_alloc, World.size_drew]); omega)) | (with_reducible refine Bx.set ?_ rfl) | (with_reducible refine Bx.grown ?_ (by assumption) (by assumption))))), Own5.nil _ _ _, by show _ = _; rw [Nat.zero_mul]; rfl, by simp, by (repeat' (first | (with_reducible exact Below.refl _ _) | (with_reducible assumption) | (with_reducible refine Below.alloc ?_ ?_ _) | (with_reducible refine Below.drew ?_) | (with_reducible refine below_drewN ?_ _) | (with_reducible refine Below.setCell ?_ ?_ _) | (with_reducible refine chain ?_ (by assumption) ?_) | omega | (simp; done) | (simp; omega)))⟩
  case round =>
    obtain ⟨i, v, zs, hi, rfl, Xg, Xz, Xo, HOw, HZ, hsz, hB⟩ := hrel
    have cg0 := Xg.out.c 0 rfl
    have cg1 := Xg.out.c 1 rfl
    have cg2 := Xg.out.c 2 rfl
    have lg := Xg.out.lt
    have cz0 := Xz.out.c 0 rfl
    have cz1 := Xz.out.c 1 rfl
    have cz2 := Xz.out.c 2 rfl
    have lz := Xz.out.lt
    have fz := Xz.out.f
    have co0 := Xo.out.c 0 rfl
    have co1 := Xo.out.c 1 rfl
    have co2 := Xo.out.c 2 rfl
    have lo := Xo.out.lt
    have fo := Xo.out.f
    cases gk with
    | zero =>
      obtain rfl : i = D := by omega
      obtain ⟨g9, cq, hv, hRd, hBa⟩ := own5_head HOw.out (by rw [HZ.out, tab_len]; exact Nat.mul_pos (by omega) (by omega))
      rw [HZ.out, tab_len, ← EN.out] at hv
      subst hv
      rw [HZ.out, ← EN.out] at hRd
      have HBa := hid hBa
      have HRd := hid hRd
      clear hRd hBa
      have hBq := hB.size
      go_wp2_with (fail)
      refine bodyPost_ret (v := mv (i : Int) (i : Int) (some ⟨g9, 0, none⟩) NN cq) (by first | (simp [results, Try.results160, go_sem, *]; done) | (simp (disch := (first | omega | (simp; done) | (simp; omega))) [results, Try.results160, go_sem, *]; done) | (simp only [results, Try.results160]; go_simp; done)) rfl ⟨g9, cq, rfl, ?_, ?_, ?_⟩
      · (repeat' (first | exact HRd.out | refine Rd.far ?_ (fun a ha => by obtain rfl := Option.some.inj ha; have := HBa.out; show g9 ≠ w.heap.size + 1; omega) _))
      · have := HBa.out; omega
      · (repeat' (first | (with_reducible exact Below.refl _ _) | (with_reducible assumption) | (with_reducible refine Below.alloc ?_ ?_ _) | (with_reducible refine Below.drew ?_) | (with_reducible refine below_drewN ?_ _) | (with_reducible refine Below.setCell ?_ ?_ _) | (with_reducible refine chain ?_ (by assumption) ?_) | omega | (simp; done) | (simp; omega)))
    | succ m9 =>
      have hlti : i < D := by omega
      have i1 : (i : Int) < (D : Int) := by omega
      go_wp2_with (fail)
      go_loopg [8] D (fun q s1 wi => ∃ (j : Nat) (v : Value) (zs : List D5), j + q = D ∧ s1 = .int .i64 (j : Int) ∧ Hid (Bx wi (w.heap.size) 150 #[.int .i64 (kd : Int), .int .i64 (A : Int), .int .i64 (B : Int)]) ∧ Hid (Bx wi (w.heap.size + 1) 30 #[.int .i64 0, .int .i64 0, .slice none 0 0]) ∧ Hid (Bx wi (w.heap.size + 1 + 1) 30 #[.int .i64 (D : Int), .int .i64 (D : Int), v]) ∧ Hid (Own5 wi (w.heap.size + 1 + 1 + 1) 99 v zs) ∧ Hid (zs = tab (i * D + j) (gsF n D kd A B)) ∧ w.heap.size + 1 + 1 + 1 ≤ wi.heap.size ∧ Below w.heap.size w wi)
      case atStart => exact ⟨0, v, zs, by omega, rfl, Xg, Xz, Xo, HOw, by show _ = _; rw [Nat.add_zero]; exact HZ.out, hsz, hB⟩
      case round =>
        clear Xg lg cg0 cg1 cg2 Xz lz cz0 cz1 cz2 fz Xo lo co0 co1 co2 fo HOw HZ hsz hB
        obtain ⟨j, v, zs, hj, rfl, Xg, Xz, Xo, HOw, HZ, hsz, hB⟩ := hrel
        have cg0 := Xg.out.c 0 rfl
        have cg1 := Xg.out.c 1 rfl
        have cg2 := Xg.out.c 2 rfl
        have lg := Xg.out.lt
        have cz0 := Xz.out.c 0 rfl
        have cz1 := Xz.out.c 1 rfl
        have cz2 := Xz.out.c 2 rfl
        have lz := Xz.out.lt
        have fz := Xz.out.f
        have co0 := Xo.out.c 0 rfl
        have co1 := Xo.out.c 1 rfl
        have co2 := Xo.out.c 2 rfl
        have lo := Xo.out.lt
        have fo := Xo.out.f
        cases gk with
        | zero =>
          obtain rfl : j = D := by omega
          go_wp2_with (fail)
          go_roundg m9
          case measure => omega
          case rel =>
            refine ⟨i + 1, v, zs, by omega, by go_num, Xg, Xz, Xo, HOw, ?_, hsz, hB⟩
            show _ = _
            rw [Nat.add_mul, Nat.one_mul]; exact HZ.out
        | succ m2 =>
          have hltj : j < D := by omega
          have j1 : (j : Int) < (D : Int) := by omega
          have hBq := hB.size
          obtain ⟨t, t1, t2, t3, t4⟩ := row_at (i := i) EN.out hlti
          have hl : zs.length = t + j := by rw [HZ.out, tab_len, t4]
          have HL := hid hl
          have T4 := hid t4
          clear hl t1 t2 t4
          have hvl := World.ownsRow.lt HOw.out
          have neg : some (w.heap.size) ≠ v.ownBlock := fun e => by have := (hvl _ e.symm).1; omega
          have nez : some (w.heap.size + 1) ≠ v.ownBlock := fun e => by have := (hvl _ e.symm).1; omega
          have neo : some (w.heap.size + 1 + 1) ≠ v.ownBlock := fun e => by have := (hvl _ e.symm).1; omega
          have HVL := hid hvl
          clear hvl
          have hcell := fun W => lcell (w := W) (r := i) (c := j) HOK.out (by rw [← HD.out]; exact hlti) (by rw [← HD.out]; exact hltj)
          obtain ⟨x, hx⟩ : ∃ x, x = cellC (gS n kd A B i j) := ⟨_, rfl⟩
          rw [← hx] at hcell
          have HX := hid hx
          have HCELL := hid hcell
          clear hx hcell
          go_wp2_with (fail)
          have yco2 : wr.drew.cell? ⟨w.heap.size + 1 + 1, 2, none⟩ = some (v) := co2
          have ycg0 : wr.drew.cell? ⟨w.heap.size, 0, none⟩ = some (.int .i64 (kd : Int)) := cg0
          have ycg1 : wr.drew.cell? ⟨w.heap.size, 1, none⟩ = some (.int .i64 (A : Int)) := cg1
          have ycg2 : wr.drew.cell? ⟨w.heap.size, 2, none⟩ = some (.int .i64 (B : Int)) := cg2
          refine wp_region_x (fun w' => w'.cell? ⟨w.heap.size + 1 + 1, 2, none⟩ = some (v) ∧ w'.cell? ⟨w.heap.size, 0, none⟩ = some (.int .i64 (kd : Int)) ∧ w'.cell? ⟨w.heap.size, 1, none⟩ = some (.int .i64 (A : Int)) ∧ w'.cell? ⟨w.heap.size, 2, none⟩ = some (.int .i64 (B : Int))) 10 (by kernel_rfl) ⟨yco2, ycg0, ycg1, ycg2⟩ (fun hS0 => ?_)
          refine wpAnyX_take (i := 0) (oi := _) (v := ?_) rfl (by kernel_rfl) (by kernel_rfl) (by kernel_rfl) (by kernel_rfl) (fun _ _ _ h => h) (Or.inl ⟨by rfl, ?_⟩) hS0 ?_
          rotate_left 1
          · (intro w hSw; (try dsimp only at hSw); go_simp; (try with_reducible rfl))
          try simp only [Act.put, List.setIfInBounds_toArray, List.set_cons_zero, List.set_cons_succ]
          refine wpAnyX_take (i := 1) (oi := _) (v := ?_) rfl (by kernel_rfl) (by kernel_rfl) (by kernel_rfl) (by kernel_rfl) (fun _ _ _ h => h) (Or.inl ⟨by rfl, ?_⟩) hS0 ?_
          rotate_left 1
          · (intro w hSw; (try dsimp only at hSw); go_simp; (try with_reducible rfl))
          try simp only [Act.put, List.setIfInBounds_toArray, List.set_cons_zero, List.set_cons_succ]
          refine wpAnyX_take (i := 2) (oi := _) (v := ?_) rfl (by kernel_rfl) (by kernel_rfl) (by kernel_rfl) (by kernel_rfl) (fun _ _ _ h => h) (Or.inl ⟨by rfl, ?_⟩) hS0 ?_
          rotate_left 1
          · (intro w hSw; (try dsimp only at hSw); go_simp; (try with_reducible rfl))
          try simp only [Act.put, List.setIfInBounds_toArray, List.set_cons_zero, List.set_cons_succ]
          refine wpAnyX_take (i := 3) (oi := _) (v := ?_) rfl (by kernel_rfl) (by kernel_rfl) (by kernel_rfl) (by kernel_rfl) (fun _ _ _ h => h) (Or.inl ⟨by rfl, ?_⟩) hS0 ?_
          rotate_left 1
          · (intro w hSw; (try dsimp only at hSw); go_simp; (try with_reducible rfl))
          try simp only [Act.put, List.setIfInBounds_toArray, List.set_cons_zero, List.set_cons_succ]
          refine wpAnyX_take (i := 4) (oi := _) (v := ?_) rfl (by kernel_rfl) (by kernel_rfl) (by kernel_rfl) (by kernel_rfl) (fun _ _ _ h => h) (Or.inl ⟨by rfl, ?_⟩) hS0 ?_
          rotate_left 1
          · (intro w hSw; (try dsimp only at hSw); go_simp; (try with_reducible rfl))
          try simp only [Act.put, List.setIfInBounds_toArray, List.set_cons_zero, List.set_cons_succ]
          refine wpAnyX_take (i := 5) (oi := _) (v := ?_) rfl (by kernel_rfl) (by kernel_rfl) (by kernel_rfl) (by kernel_rfl) (fun _ _ _ h => h) (Or.inl ⟨by rfl, ?_⟩) hS0 ?_
          rotate_left 1
          · (intro w hSw; (try dsimp only at hSw); go_simp; (try with_reducible rfl))
          try simp only [Act.put, List.setIfInBounds_toArray, List.set_cons_zero, List.set_cons_succ]
          refine wpAnyX_one (i := 6) (o := _) rfl (by kernel_rfl) (fun K hK => ?_)
          go_simp
          refine (HCELL.out _).mono ?_
          rintro ee w8 ⟨rfl, hb80⟩
          have hb8 : Below wr.heap.size wr w8 := ⟨hb80.os, hb80.tape, hb80.output, hb80.size, hb80.block⟩
          have hz8 := hb8.size
          refine hK.out _ _ (fun _ => ?_) (fun hS1 => ?_)
          · exact ⟨kc hb80 (hS0.1), kc hb80 (hS0.2.1), kc hb80 (hS0.2.2.1), kc hb80 (hS0.2.2.2)⟩
          clear hK K
          have hS1 := hS1 (by decide)
          try simp only [Act.put, List.setIfInBounds_toArray, List.set_cons_zero, List.set_cons_succ]
          refine wpAnyX_one (i := 7) (o := _) rfl (by kernel_rfl) (fun K hK => ?_)
          go_simp
          refine hK.out _ _ (fun _ => ?_) (fun hS2 => ?_)
          · first | exact ⟨kal (hS1.1), kal (hS1.2.1), kal (hS1.2.2.1), kal (hS1.2.2.2)⟩ | exact ⟨kald (hS1.1), kald (hS1.2.1), kald (hS1.2.2.1), kald (hS1.2.2.2)⟩
          clear hK K
          have hS2 := hS2 (by decide)
          try simp only [Act.put, List.setIfInBounds_toArray, List.set_cons_zero, List.set_cons_succ]
          refine wpAnyX_one (i := 8) (o := _) rfl (by kernel_rfl) (fun K hK => ?_)
          refine step_append_lies _ (by rfl) _ _ _ (by rfl) (w.heap.size + 1 + 1 + 1) 99 i0 _ 5 40 Try.underlying28 hi0 hu0 hu1 hu2 rfl (by omega) v (t + j) (csL zs) (by rfl) (World.ownsRow.alloc (by have := HOw.out.mono hb8; unfold Own5 at this; rw [HL.out] at this; exact this) _) ⟨w8.heap.size, 0, none⟩ 1 1 x.cs (by rfl) (by rfl) (World.news_of_block (cs := x.cs.toArray) (t := 99) (fr := (0, 0)) (heap_alloc_new _ _)) (by simp [D5.cs, Value.oneCell']) (by omega) (append_ok (by omega)).1 (append_ok (by omega)).2 (by simp; omega) (w8.heap.size + 1) (by simp) ?_
          intro gg cap w9 hown9 hgrow9 hat9 hlt9
          refine hK.out _ _ (fun _ => ?_) (fun hS3 => ?_)
          · exact ⟨hgrow9.cell (hS2.1) neo, hgrow9.cell (hS2.2.1) neg, hgrow9.cell (hS2.2.2.1) neg, hgrow9.cell (hS2.2.2.2) neg⟩
          clear hK K
          have hS3 := hS3 (by decide)
          try simp only [Act.put, List.setIfInBounds_toArray, List.set_cons_zero, List.set_cons_succ]
          refine wpAnyX_take (i := 9) (oi := _) (v := ?_) rfl (by kernel_rfl) (by kernel_rfl) (by kernel_rfl) (by kernel_rfl) (fun _ _ _ h => h) (Or.inl ⟨by rfl, ?_⟩) hS3 ?_
          rotate_left 1
          · (intro w hSw; (try dsimp only at hSw); go_simp; (try with_reducible rfl))
          try simp only [Act.put, List.setIfInBounds_toArray, List.set_cons_zero, List.set_cons_succ]
          refine wpAnyX_one (i := 10) (o := _) rfl (by kernel_rfl) (fun K hK => ?_)
          have Yo := (Bx.alloc (Xo.out.mono hb8) _).grown hgrow9 neo
          have yo2 := Yo.c 2 rfl
          have yof := Yo.f 2
          go_simp
          refine hK.out _ _ (fun h => absurd rfl h) (fun _ => ?_)
          clear hK K
          try simp only [Act.put, List.setIfInBounds_toArray, List.set_cons_zero, List.set_cons_succ]
          refine wpAnyX_done (by kernel_rfl) ?_ _
          go_wp2_with (fail)
          go_roundg m2
          case measure => omega
          case rel =>
            have hz9 := hgrow9.size
            simp only [World.size_alloc] at hz9
            have Yg := (Bx.alloc (Xg.out.mono hb8) _).grown hgrow9 neg
            have Yz := (Bx.alloc (Xz.out.mono hb8) _).grown hgrow9 nez
            have hB8 : Below w.heap.size w w8 := chain hB hb8 hBq
            refine ⟨j + 1, .slice (some ⟨gg, 0, none⟩) (t + j + 1) cap, zs ++ [x], by omega, by go_num, Yg.far (by omega), Yz.far (by omega), Yo.set rfl, ?_, ?_, by (try simp only [World.size_setCell]); omega, ?_⟩
            · show Own5 _ _ _ _ _
              exact (Own5.snoc HL.out hown9).far (by show w.heap.size + 1 + 1 < _; omega) _
            · show _ = _
              rw [← Nat.add_assoc, tab_succ, ← HZ.out, HX.out]
              unfold gsF
              rw [(divG hltj).1, (divG hltj).2]
            · refine Below.setCell ?_ (by show w.heap.size ≤ w.heap.size + 1 + 1; omega) _
              refine Below.grown (hB8.alloc hB8.size _) hgrow9 (by simp only [World.size_alloc]; omega) (fun q e => by have := (HVL.out _ e).1; omega)

end Go.Proofs.Ytofclfgaekjonaa
namespace Go.Proofs.Ytofclfgaekjonaa
open Go.RowKit RM
set_option linter.unusedVariables false
set_option linter.unusedSimpArgs false
attribute [local irreducible] World.setCell

set_option maxRecDepth 100000 in
set_option maxHeartbeats 4000000 in
theorem te_7 {w : World} :
    Calls Try.prog 197 #[.int .i64 7] w fun ee w' => ∃ g : Nat, ee = .returned (.slice (some ⟨g, 0, none⟩) 1 1) ∧ Bx w' g 210 #[.func (.func 208) #[] #[]] ∧ w.heap.size ≤ g ∧ Below w.heap.size w w' := by
  go_enter Try.func197, Try.ntmps197
  go_wp2_with (fail)
  go_ret
  refine ⟨w.heap.size + 1 + 1 + 1 + 1 + 1 + 1, rfl, ?_, by omega, ?_⟩
  · (repeat' (first | (with_reducible assumption) | (refine Bx.new (by first | (with_reducible rfl) | (simp; done))) | (with_reducible refine Bx.alloc ?_ _) | (with_reducible refine Bx.drew ?_) | (with_reducible refine Bx.drewN ?_ _) | (with_reducible refine Bx.mono ?_ (by assumption)) | (with_reducible refine Bx.badly ?_ (by assumption) (by omega)) | (with_reducible refine Bx.far ?_ (by (try simp only [World.size_alloc, World.size_drew]); omega)) | (with_reducible refine Bx.set ?_ rfl) | (with_reducible refine Bx.grown ?_ (by assumption) (by assumption))))
  · (repeat' (first | (with_reducible exact Below.refl _ _) | (with_reducible assumption) | (with_reducible refine Below.alloc ?_ ?_ _) | (with_reducible refine Below.drew ?_) | (with_reducible refine below_drewN ?_ _) | (with_reducible refine Below.setCell ?_ ?_ _) | (with_reducible refine chain ?_ (by assumption) ?_) | omega | (simp; done) | (simp; omega)))

set_option maxRecDepth 100000 in
set_option maxHeartbeats 4000000 in
theorem te_8 {w : World} :
    Calls Try.prog 197 #[.int .i64 8] w fun ee w' => ∃ g : Nat, ee = .returned (.slice (some ⟨g, 0, none⟩) 1 1) ∧ Bx w' g 210 #[.func (.func 209) #[] #[]] ∧ w.heap.size ≤ g ∧ Below w.heap.size w w' := by
  go_enter Try.func197, Try.ntmps197
  go_wp2_with (fail)
  go_ret
  refine ⟨w.heap.size + 1 + 1 + 1 + 1 + 1 + 1 + 1, rfl, ?_, by omega, ?_⟩
  · (repeat' (first | (with_reducible assumption) | (refine Bx.new (by first | (with_reducible rfl) | (simp; done))) | (with_reducible refine Bx.alloc ?_ _) | (with_reducible refine Bx.drew ?_) | (with_reducible refine Bx.drewN ?_ _) | (with_reducible refine Bx.mono ?_ (by assumption)) | (with_reducible refine Bx.badly ?_ (by assumption) (by omega)) | (with_reducible refine Bx.far ?_ (by (try simp only [World.size_alloc, World.size_drew]); omega)) | (with_reducible refine Bx.set ?_ rfl) | (with_reducible refine Bx.grown ?_ (by assumption) (by assumption))))
  · (repeat' (first | (with_reducible exact Below.refl _ _) | (with_reducible assumption) | (with_reducible refine Below.alloc ?_ ?_ _) | (with_reducible refine Below.drew ?_) | (with_reducible refine below_drewN ?_ _) | (with_reducible refine Below.setCell ?_ ?_ _) | (with_reducible refine chain ?_ (by assumption) ?_) | omega | (simp; done) | (simp; omega)))

set_option maxRecDepth 100000 in
set_option maxHeartbeats 4000000 in
theorem te_9 {w : World} :
    Calls Try.prog 197 #[.int .i64 9] w fun ee w' => ∃ g : Nat, ee = .returned (.slice (some ⟨g, 0, none⟩) 1 1) ∧ Bx w' g 210 #[.func (.func 210) #[] #[]] ∧ w.heap.size ≤ g ∧ Below w.heap.size w w' := by
  go_enter Try.func197, Try.ntmps197
  go_wp2_with (fail)
  go_ret
  refine ⟨w.heap.size + 1 + 1 + 1 + 1 + 1 + 1 + 1 + 1, rfl, ?_, by omega, ?_⟩
  · (repeat' (first | (with_reducible assumption) | (refine Bx.new (by first | (with_reducible rfl) | (simp; done))) | (with_reducible refine Bx.alloc ?_ _) | (with_reducible refine Bx.drew ?_) | (with_reducible refine Bx.drewN ?_ _) | (with_reducible refine Bx.mono ?_ (by assumption)) | (with_reducible refine Bx.badly ?_ (by assumption) (by omega)) | (with_reducible refine Bx.far ?_ (by (try simp only [World.size_alloc, World.size_drew]); omega)) | (with_reducible refine Bx.set ?_ rfl) | (with_reducible refine Bx.grown ?_ (by assumption) (by assumption))))
  · (repeat' (first | (with_reducible exact Below.refl _ _) | (with_reducible assumption) | (with_reducible refine Below.alloc ?_ ?_ _) | (with_reducible refine Below.drew ?_) | (with_reducible refine below_drewN ?_ _) | (with_reducible refine Below.setCell ?_ ?_ _) | (with_reducible refine chain ?_ (by assumption) ?_) | omega | (simp; done) | (simp; omega)))

end Go.Proofs.Ytofclfgaekjonaa
