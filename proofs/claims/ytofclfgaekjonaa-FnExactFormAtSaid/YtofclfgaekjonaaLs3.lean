/- Contracts of what the laws call on matrices: the size, the copy, the comparison, the marks, their check. -/
import Derived.Test.YtofclfgaekjonaaLs1
import Derived.Test.YtofclfgaekjonaaLs2
namespace Go.Proofs.Ytofclfgaekjonaa
open Go.RowKit RM
set_option linter.unusedVariables false
set_option linter.unusedSimpArgs false
attribute [local irreducible] World.setCell

/-- the value of a matrix; one and whether there is one -/
abbrev mv (r c : Int) (A : Option Addr) (n cp : Nat) : Value := .agg #[.int .i64 r, .int .i64 c, .slice A n cp]
abbrev mt (r c : Int) (A : Option Addr) (n cp : Nat) (ok : Bool) : Value := .tuple #[mv r c A n cp, .bool ok]

set_option maxRecDepth 100000 in
set_option maxHeartbeats 2000000 in
theorem szm_t {r c : Int} {A : Option Addr} {n cp : Nat} {k : Int} {w : World} (hn : (n : Int) ≤ k) (hk : k ≤ 1048576) :
    Calls Try.prog 15 #[mv r c A n cp, .int .i64 k] w fun ee w' => ee = .returned (.int .i64 (k - n)) ∧ Below w.heap.size w w' := by
  have h0 : ¬ (k - (n : Int) < 0) := by omega
  have h1 : 0 ≤ k - (n : Int) := by omega
  go_enter Try.func15, Try.ntmps15
  go_wp2_with ((go_at_call 56; ((with_reducible refine (szs_t hn hk).mono ?_); rintro ee w1 ⟨rfl, hb1⟩)))
  go_ret
  refine ⟨rfl, ?_⟩
  (repeat' (first | (with_reducible exact Below.refl _ _) | (with_reducible assumption) | (with_reducible refine Below.alloc ?_ ?_ _) | (with_reducible refine Below.drew ?_) | (with_reducible refine below_drewN ?_ _) | (with_reducible refine Below.setCell ?_ ?_ _) | (with_reducible refine chain ?_ (by assumption) ?_) | omega | (simp; done) | (simp; omega)))

set_option maxRecDepth 100000 in
set_option maxHeartbeats 2000000 in
theorem szm_f {r c : Int} {A : Option Addr} {n cp : Nat} {k : Int} {w : World} (hn : k < (n : Int)) (hk : k ≤ 1048576) (h0 : 0 ≤ k) (hb : n ≤ maxLen) :
    Calls Try.prog 15 #[mv r c A n cp, .int .i64 k] w fun ee w' => ee = .returned (.int .i64 (-1)) ∧ Below w.heap.size w w' := by
  go_enter Try.func15, Try.ntmps15
  go_wp2_with ((go_at_call 56; ((with_reducible refine (szs_f hn hk h0 hb).mono ?_); rintro ee w1 ⟨rfl, hb1⟩)))
  go_ret
  refine ⟨rfl, ?_⟩
  (repeat' (first | (with_reducible exact Below.refl _ _) | (with_reducible assumption) | (with_reducible refine Below.alloc ?_ ?_ _) | (with_reducible refine Below.drew ?_) | (with_reducible refine below_drewN ?_ _) | (with_reducible refine Below.setCell ?_ ?_ _) | (with_reducible refine chain ?_ (by assumption) ?_) | omega | (simp; done) | (simp; omega)))

set_option maxRecDepth 100000 in
set_option maxHeartbeats 2000000 in
theorem tm {r c : Int} {A : Option Addr} {n cp : Nat} {xs : List D5} {w : World} (hR : Rd w A xs) (hn : xs.length = n) (hb : n ≤ 1048576) :
    Calls Try.prog 17 #[mv r c A n cp] w fun ee w' => ∃ g, ee = .returned (mv r c (some ⟨g, 0, none⟩) n n) ∧ Bk w' g 99 xs ∧ w.heap.size ≤ g ∧ Below w.heap.size w w' := by
  have HR := hid hR
  have HN := hid hn
  clear hR hn
  go_enter Try.func17, Try.ntmps17
  go_wp2_with ((go_at_call 59; ((with_reducible refine (tds ?_ HN.out hb).mono ?_); (exact HR.out.mono (by (repeat' (first | (with_reducible exact Below.refl _ _) | (with_reducible assumption) | (with_reducible refine Below.alloc ?_ ?_ _) | (with_reducible refine Below.drew ?_) | (with_reducible refine below_drewN ?_ _) | (with_reducible refine Below.setCell ?_ ?_ _) | (with_reducible refine chain ?_ (by assumption) ?_) | omega | (simp; done) | (simp; omega))))); rintro ee w1 ⟨rfl, hB1, hb1⟩; simp only [World.size_alloc] at hB1; have HB1 := hid hB1; clear hB1; obtain ⟨hc1, hf1, _⟩ := bcell hb1; have hz1 := hb1.size; (try simp at hz1); (try have hx10 : w.heap.size < w1.heap.size := (by omega)); (try have hx11 : w.heap.size + 1 < w1.heap.size := (by omega)); (try have hx12 : w.heap.size + 1 + 1 < w1.heap.size := (by omega)); (try have hx13 : w.heap.size + 1 + 1 + 1 < w1.heap.size := (by omega)))))
  refine bodyPost_ret (v := mv r c (some ⟨w.heap.size + 1 + 1 + 1, 0, none⟩) n n) (by first | (simp [results, Try.results17, go_sem, *]; done) | (simp (disch := (first | omega | (simp; done) | (simp; omega))) [results, Try.results17, go_sem, *]; done)) rfl ⟨_, rfl, ?_, by omega, ?_⟩
  · refine HB1.out.at_ ?_
    (repeat (rw [Below.heap_setCell _ _ _ _ (by simp; try omega)]))
    try rfl
  · (repeat' (first | (with_reducible exact Below.refl _ _) | (with_reducible assumption) | (with_reducible refine Below.alloc ?_ ?_ _) | (with_reducible refine Below.drew ?_) | (with_reducible refine below_drewN ?_ _) | (with_reducible refine Below.setCell ?_ ?_ _) | (with_reducible refine chain ?_ (by assumption) ?_) | omega | (simp; done) | (simp; omega)))

set_option maxRecDepth 100000 in
set_option maxHeartbeats 2000000 in
theorem eqm {r c : Int} {A B : Option Addr} {n cp dp : Nat} {xs : List D5} {w : World} (hA : Rd w A xs) (hB : Rd w B xs) (hn : xs.length = n) (hb : n ≤ 1048576) :
    Calls Try.prog 19 #[mv r c A n cp, mv r c B n dp] w fun ee w' => ee = .returned (.bool true) ∧ Below w.heap.size w w' := by
  have HA := hid hA
  have HB := hid hB
  have HN := hid hn
  clear hA hB hn
  go_enter Try.func19, Try.ntmps19
  go_wp2_with ((go_at_call 62; ((with_reducible refine (eqs ?_ ?_ HN.out hb).mono ?_); (exact HA.out.mono (by (repeat' (first | (with_reducible exact Below.refl _ _) | (with_reducible assumption) | (with_reducible refine Below.alloc ?_ ?_ _) | (with_reducible refine Below.drew ?_) | (with_reducible refine below_drewN ?_ _) | (with_reducible refine Below.setCell ?_ ?_ _) | (with_reducible refine chain ?_ (by assumption) ?_) | omega | (simp; done) | (simp; omega))))); (exact HB.out.mono (by (repeat' (first | (with_reducible exact Below.refl _ _) | (with_reducible assumption) | (with_reducible refine Below.alloc ?_ ?_ _) | (with_reducible refine Below.drew ?_) | (with_reducible refine below_drewN ?_ _) | (with_reducible refine Below.setCell ?_ ?_ _) | (with_reducible refine chain ?_ (by assumption) ?_) | omega | (simp; done) | (simp; omega))))); rintro ee w1 ⟨rfl, hb1⟩)))
  go_ret
  refine ⟨rfl, ?_⟩
  (repeat' (first | (with_reducible exact Below.refl _ _) | (with_reducible assumption) | (with_reducible refine Below.alloc ?_ ?_ _) | (with_reducible refine Below.drew ?_) | (with_reducible refine below_drewN ?_ _) | (with_reducible refine Below.setCell ?_ ?_ _) | (with_reducible refine chain ?_ (by assumption) ?_) | omega | (simp; done) | (simp; omega)))

theorem mks_c {A : Option Addr} {B n c : Nat} {k : Int} {xs : List D5} {w : World} (hO : Ow w B 99 A xs) (hn : xs.length = n) (hb : n ≤ 1048576) (h0 : 0 ≤ k) (h1 : k ≤ 10000000) :
    Calls Try.prog 83 #[.slice A n c, .int .i64 k] w fun ee w' => ee = .returned (.int .i64 (k + 5 * (n : Int))) ∧ Ow w' B 99 A (mks k n) ∧ w.grownBy w' (blk A) := by
  rcases hO with ⟨rfl, rfl⟩ | ⟨g, rfl, hg, hB⟩
  · obtain rfl : n = 0 := hn.symm
    refine mks_n.mono ?_
    rintro ee w1 ⟨rfl, hb1⟩
    exact ⟨by simp, Or.inl ⟨rfl, rfl⟩, grown_below hb1⟩
  · refine (mks_s hB hn hb h0 h1).mono ?_
    rintro ee w1 ⟨rfl, hB1, hg1⟩
    exact ⟨rfl, Or.inr ⟨g, rfl, hg, hB1⟩, hg1⟩
theorem grown_alloc {w w' : World} {o : Obj} {row : Option Nat} (h : (w.alloc o).grownBy w' row) : w.grownBy w' row := grown_trans (World.grownBy_alloc w o row) h

set_option maxRecDepth 100000 in
set_option maxHeartbeats 2000000 in
theorem mkm {r c : Int} {A : Option Addr} {B n cp : Nat} {k : Int} {xs : List D5} {w : World} (hO : Ow w B 99 A xs) (hn : xs.length = n) (hb : n ≤ 1048576) (h0 : 0 ≤ k) (h1 : k ≤ 10000000) :
    Calls Try.prog 40 #[mv r c A n cp, .int .i64 k] w fun ee w' => ee = .returned (.int .i64 (k + 5 * (n : Int))) ∧ Ow w' B 99 A (mks k n) ∧ w.grownBy w' (blk A) := by
  have HO := hid hO
  have HN := hid hn
  clear hO hn
  go_enter Try.func40, Try.ntmps40
  go_wp2_with ((go_at_call 83; ((with_reducible refine (mks_c (B := B) ?_ HN.out hb h0 h1).mono ?_); (exact HO.out.mono (by (repeat' (first | (with_reducible exact Below.refl _ _) | (with_reducible assumption) | (with_reducible refine Below.alloc ?_ ?_ _) | (with_reducible refine Below.drew ?_) | (with_reducible refine below_drewN ?_ _) | (with_reducible refine Below.setCell ?_ ?_ _) | (with_reducible refine chain ?_ (by assumption) ?_) | omega | (simp; done) | (simp; omega))))); rintro ee w1 ⟨rfl, hO1, hg1⟩; have HO1 := hid hO1; have HG1 := hid hg1; clear hO1 hg1)))
  go_ret
  exact ⟨rfl, HO1.out, grown_alloc HG1.out⟩

set_option maxRecDepth 100000 in
set_option maxHeartbeats 2000000 in
theorem hdm {r c : Int} {A : Option Addr} {n cp : Nat} {k : Int} {w : World} (hA : Rd w A (mks k n)) (hb : n ≤ 1048576) (h0 : 0 ≤ k) (h1 : k ≤ 10000000) :
    Calls Try.prog 44 #[mv r c A n cp, .int .i64 k] w fun ee w' => ee = .returned (.int .i64 (k + 5 * (n : Int))) ∧ Below w.heap.size w w' := by
  have HA := hid hA
  clear hA
  have b0 : ¬ (k + 5 * (n : Int) < 0) := by omega
  go_enter Try.func44, Try.ntmps44
  go_wp2_with ((go_at_call 84; ((with_reducible refine (hds ?_ hb h0 h1).mono ?_); (exact HA.out.mono (by (repeat' (first | (with_reducible exact Below.refl _ _) | (with_reducible assumption) | (with_reducible refine Below.alloc ?_ ?_ _) | (with_reducible refine Below.drew ?_) | (with_reducible refine below_drewN ?_ _) | (with_reducible refine Below.setCell ?_ ?_ _) | (with_reducible refine chain ?_ (by assumption) ?_) | omega | (simp; done) | (simp; omega))))); rintro ee w1 ⟨rfl, hb1⟩)))
  go_ret
  refine ⟨rfl, ?_⟩
  (repeat' (first | (with_reducible exact Below.refl _ _) | (with_reducible assumption) | (with_reducible refine Below.alloc ?_ ?_ _) | (with_reducible refine Below.drew ?_) | (with_reducible refine below_drewN ?_ _) | (with_reducible refine Below.setCell ?_ ?_ _) | (with_reducible refine chain ?_ (by assumption) ?_) | omega | (simp; done) | (simp; omega)))

end Go.Proofs.Ytofclfgaekjonaa
