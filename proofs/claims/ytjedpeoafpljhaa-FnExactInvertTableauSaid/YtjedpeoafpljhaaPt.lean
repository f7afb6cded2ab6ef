/- Contracts of what the laws call on tableaux. -/
import Derived.Test.YtjedpeoafpljhaaPts
namespace Go.Proofs.Ytjedpeoafpljhaa.C4
open Go.RowKit
set_option linter.unusedVariables false
set_option linter.unusedSimpArgs false
attribute [local irreducible] World.setCell

abbrev tableauV (a0 : Int) (A1 : Option Addr) (n1 c1 : Nat) (A2 : Option Addr) (n2 c2 : Nat) : Value := .agg #[.int .i64 a0, .slice (A1) n1 c1, .slice (A2) n2 c2]
set_option maxRecDepth 100000 in
set_option maxHeartbeats 2000000 in
theorem szTableau_t {a0 : Int} {A1 : Option Addr} {n1 c1 : Nat} {A2 : Option Addr} {n2 c2 : Nat} {k : Int} {w : World} (hn1 : (n1 : Int) ≤ k) (hn2 : (n2 : Int) ≤ k - n1) (hk : k ≤ 1048576) :
    Calls Try.prog 38 #[tableauV a0 A1 n1 c1 A2 n2 c2, .int .i64 k] w fun ee w' => ee = .returned (.int .i64 (k - n1 - n2)) ∧ Below w.heap.size w w' := by
  have h0 : ¬ (k - (n1 : Int) < 0) := by omega
  have h1 : k - (n1 : Int) ≤ 1048576 := by omega
  have h2 : ¬ (k - (n1 : Int) - (n2 : Int) < 0) := by omega
  go_enter Try.func38, Try.ntmps38
  go_wp2_with (fail)
  refine (szPauliS_t hn1 hk).mono ?_
  rintro ee w1 ⟨rfl, hb1⟩
  obtain ⟨hc1, hf1, _⟩ := bcl hb1
  have hz1 := hb1.size
  (try simp at hz1)
  (try have hx10 : w.heap.size < w1.heap.size := (by omega))
  (try have hx11 : w.heap.size + 1 < w1.heap.size := (by omega))
  (try have hx12 : w.heap.size + 1 + 1 < w1.heap.size := (by omega))
  (try have hx13 : w.heap.size + 1 + 1 + 1 < w1.heap.size := (by omega))
  go_wp2_with (fail)
  refine (szPauliS_t hn2 h1).mono ?_
  rintro ee w2 ⟨rfl, hb2⟩
  go_wp2_with (fail)
  go_ret
  refine ⟨rfl, ?_⟩
  (repeat' (first | (with_reducible exact Below.refl _ _) | (with_reducible assumption) | (with_reducible refine Below.alloc ?_ ?_ _) | (with_reducible refine Below.drew ?_) | (with_reducible refine bdN ?_ _) | (with_reducible refine Below.setCell ?_ ?_ _) | (with_reducible refine chn ?_ (by assumption) ?_) | omega | (simp; done) | (simp; omega)))

set_option maxRecDepth 100000 in
set_option maxHeartbeats 2000000 in
theorem szTableau_f {a0 : Int} {A1 : Option Addr} {n1 c1 : Nat} {A2 : Option Addr} {n2 c2 : Nat} {k : Int} {w : World} (hn : k < (n1 : Int) + (n2 : Int)) (hk : k ≤ 1048576) (h0 : 0 ≤ k) (hb1 : n1 ≤ maxLen) (hb2 : n2 ≤ maxLen) :
    Calls Try.prog 38 #[tableauV a0 A1 n1 c1 A2 n2 c2, .int .i64 k] w fun ee w' => ee = .returned (.int .i64 (-1)) ∧ Below w.heap.size w w' := by
  by_cases h1 : k < (n1 : Int)
  · go_enter Try.func38, Try.ntmps38
    go_wp2_with (fail)
    refine (szPauliS_f h1 hk h0 hb1).mono ?_
    rintro ee w1 ⟨rfl, hb1⟩
    go_wp2_with (fail)
    go_ret
    refine ⟨rfl, ?_⟩
    (repeat' (first | (with_reducible exact Below.refl _ _) | (with_reducible assumption) | (with_reducible refine Below.alloc ?_ ?_ _) | (with_reducible refine Below.drew ?_) | (with_reducible refine bdN ?_ _) | (with_reducible refine Below.setCell ?_ ?_ _) | (with_reducible refine chn ?_ (by assumption) ?_) | omega | (simp; done) | (simp; omega)))
  · have h2 : (n1 : Int) ≤ k := by omega
    have h3 : k - (n1 : Int) < (n2 : Int) := by omega
    have h4 : k - (n1 : Int) ≤ 1048576 := by omega
    have h5 : 0 ≤ k - (n1 : Int) := by omega
    have h6 : ¬ (k - (n1 : Int) < 0) := by omega
    go_enter Try.func38, Try.ntmps38
    go_wp2_with (fail)
    refine (szPauliS_t h2 hk).mono ?_
    rintro ee w1 ⟨rfl, hb1⟩
    obtain ⟨hc1, hf1, _⟩ := bcl hb1
    have hz1 := hb1.size
    (try simp at hz1)
    (try have hx10 : w.heap.size < w1.heap.size := (by omega))
    (try have hx11 : w.heap.size + 1 < w1.heap.size := (by omega))
    (try have hx12 : w.heap.size + 1 + 1 < w1.heap.size := (by omega))
    (try have hx13 : w.heap.size + 1 + 1 + 1 < w1.heap.size := (by omega))
    go_wp2_with (fail)
    refine (szPauliS_f h3 h4 h5 hb2).mono ?_
    rintro ee w2 ⟨rfl, hb9⟩
    go_wp2_with (fail)
    go_ret
    refine ⟨rfl, ?_⟩
    (repeat' (first | (with_reducible exact Below.refl _ _) | (with_reducible assumption) | (with_reducible refine Below.alloc ?_ ?_ _) | (with_reducible refine Below.drew ?_) | (with_reducible refine bdN ?_ _) | (with_reducible refine Below.setCell ?_ ?_ _) | (with_reducible refine chn ?_ (by assumption) ?_) | omega | (simp; done) | (simp; omega)))

set_option maxRecDepth 100000 in
set_option maxHeartbeats 4000000 in
theorem toTableau {a0 : Int} {A1 : Option Addr} {n1 c1 : Nat} {A2 : Option Addr} {n2 c2 : Nat} {xs1 : List PauliV} {xs2 : List PauliV} {w : World} (hA1 : Rd pauliE w A1 xs1) (hA2 : Rd pauliE w A2 xs2) (hn1 : xs1.length = n1) (hb1 : n1 ≤ 1048576) (hn2 : xs2.length = n2) (hb2 : n2 ≤ 1048576) :
    Calls Try.prog 40 #[tableauV a0 A1 n1 c1 A2 n2 c2] w fun ee w' => ∃ g1 g2 : Nat, ee = .returned (tableauV a0 (some ⟨g1, 0, none⟩) n1 n1 (some ⟨g2, 0, none⟩) n2 n2) ∧ Bk pauliE w' g1 43 xs1 ∧ Bk pauliE w' g2 43 xs2 ∧ w.heap.size ≤ g1 ∧ g1 + 1 ≤ g2 ∧ Below w.heap.size w w' := by
  have HR1 := lay hA1
  have HN1 := lay hn1
  clear hA1 hn1
  have HR2 := lay hA2
  have HN2 := lay hn2
  clear hA2 hn2
  go_enter Try.func40, Try.ntmps40
  go_wp2_with (first | (go_at_call 99; ((with_reducible refine (toPauliS (xs := xs1) ?_ HN1.out hb1).mono ?_); (exact HR1.out.mono (by (repeat' (first | (with_reducible exact Below.refl _ _) | (with_reducible assumption) | (with_reducible refine Below.alloc ?_ ?_ _) | (with_reducible refine Below.drew ?_) | (with_reducible refine bdN ?_ _) | (with_reducible refine Below.setCell ?_ ?_ _) | (with_reducible refine chn ?_ (by assumption) ?_) | omega | (simp; done) | (simp; omega))))); rintro ee w1 ⟨rfl, hB1, hb1⟩; simp only [World.size_alloc, World.size_setCell] at hB1; have HB1 := lay hB1; clear hB1; obtain ⟨hc1, hf1, _⟩ := bcl hb1; have hz1 := hb1.size; (try simp at hz1); (try have hx10 : w.heap.size < w1.heap.size := (by omega)); (try have hx11 : w.heap.size + 1 < w1.heap.size := (by omega)); (try have hx12 : w.heap.size + 1 + 1 < w1.heap.size := (by omega)); (try have hx13 : w.heap.size + 1 + 1 + 1 < w1.heap.size := (by omega)))) | (go_at_call 99; ((with_reducible refine (toPauliS (xs := xs2) ?_ HN2.out hb2).mono ?_); (exact HR2.out.mono (by (repeat' (first | (with_reducible exact Below.refl _ _) | (with_reducible assumption) | (with_reducible refine Below.alloc ?_ ?_ _) | (with_reducible refine Below.drew ?_) | (with_reducible refine bdN ?_ _) | (with_reducible refine Below.setCell ?_ ?_ _) | (with_reducible refine chn ?_ (by assumption) ?_) | omega | (simp; done) | (simp; omega))))); rintro ee w2 ⟨rfl, hB2, hb2⟩; simp only [World.size_alloc, World.size_setCell] at hB2; have HB2 := lay hB2; clear hB2; obtain ⟨hc2, hf2, _⟩ := bcl hb2; have hz2 := hb2.size; (try simp at hz2); (try have hx20 : w.heap.size < w2.heap.size := (by omega)); (try have hx21 : w.heap.size + 1 < w2.heap.size := (by omega)); (try have hx22 : w.heap.size + 1 + 1 < w2.heap.size := (by omega)); (try have hx23 : w.heap.size + 1 + 1 + 1 < w2.heap.size := (by omega)))))
  refine bodyPost_ret (v := tableauV a0 (some ⟨w.heap.size + 1 + 1 + 1, 0, none⟩) n1 n1 (some ⟨w1.heap.size, 0, none⟩) n2 n2) (by first | (simp [results, Try.results40, go_sem, *]; done) | (simp (disch := (first | omega | (simp; done) | (simp; omega))) [results, Try.results40, go_sem, *]; done) | (simp only [results, Try.results40]; go_simp; done)) rfl ⟨_, _, rfl, ?_, ?_, by omega, by have := HB1.out.lt; omega, ?_⟩
  · (repeat (first | exact HB1.out | exact HB2.out | refine Bk.far ?_ (by (try dsimp only); omega) _ | refine Bk.alloc ?_ _ | refine Bk.mono ?_ (by assumption)))
  · (repeat (first | exact HB1.out | exact HB2.out | refine Bk.far ?_ (by (try dsimp only); omega) _ | refine Bk.alloc ?_ _ | refine Bk.mono ?_ (by assumption)))
  · (repeat' (first | (with_reducible exact Below.refl _ _) | (with_reducible assumption) | (with_reducible refine Below.alloc ?_ ?_ _) | (with_reducible refine Below.drew ?_) | (with_reducible refine bdN ?_ _) | (with_reducible refine Below.setCell ?_ ?_ _) | (with_reducible refine chn ?_ (by assumption) ?_) | omega | (simp; done) | (simp; omega)))

set_option maxRecDepth 100000 in
set_option maxHeartbeats 4000000 in
theorem eqTableau {a0 : Int} {A1 : Option Addr} {n1 c1 : Nat} {A2 : Option Addr} {n2 c2 : Nat} {xs1 : List PauliV} {xs2 : List PauliV} {B1 : Option Addr} {d1 : Nat} {B2 : Option Addr} {d2 : Nat} {w : World} (hA1 : Rd pauliE w A1 xs1) (hA2 : Rd pauliE w A2 xs2) (hB1 : Rd pauliE w B1 xs1) (hB2 : Rd pauliE w B2 xs2) (hn1 : xs1.length = n1) (hb1 : n1 ≤ 1048576) (hn2 : xs2.length = n2) (hb2 : n2 ≤ 1048576) :
    Calls Try.prog 33 #[tableauV a0 A1 n1 c1 A2 n2 c2, tableauV a0 B1 n1 d1 B2 n2 d2] w fun ee w' => ee = .returned (.bool true) ∧ Below w.heap.size w w' := by
  have HA1 := lay hA1
  have HB1 := lay hB1
  have HN1 := lay hn1
  clear hA1 hB1 hn1
  have HA2 := lay hA2
  have HB2 := lay hB2
  have HN2 := lay hn2
  clear hA2 hB2 hn2
  go_enter Try.func33, Try.ntmps33
  go_wp2_with (first | (go_at_call 91; ((with_reducible refine (eqPauliS (xs := xs1) ?_ ?_ HN1.out hb1).mono ?_); (exact HA1.out.mono (by (repeat' (first | (with_reducible exact Below.refl _ _) | (with_reducible assumption) | (with_reducible refine Below.alloc ?_ ?_ _) | (with_reducible refine Below.drew ?_) | (with_reducible refine bdN ?_ _) | (with_reducible refine Below.setCell ?_ ?_ _) | (with_reducible refine chn ?_ (by assumption) ?_) | omega | (simp; done) | (simp; omega))))); (exact HB1.out.mono (by (repeat' (first | (with_reducible exact Below.refl _ _) | (with_reducible assumption) | (with_reducible refine Below.alloc ?_ ?_ _) | (with_reducible refine Below.drew ?_) | (with_reducible refine bdN ?_ _) | (with_reducible refine Below.setCell ?_ ?_ _) | (with_reducible refine chn ?_ (by assumption) ?_) | omega | (simp; done) | (simp; omega))))); rintro ee w1 ⟨rfl, hb1⟩; obtain ⟨hc1, hf1, _⟩ := bcl hb1; have hz1 := hb1.size; (try simp at hz1); (try have hx10 : w.heap.size < w1.heap.size := (by omega)); (try have hx11 : w.heap.size + 1 < w1.heap.size := (by omega)); (try have hx12 : w.heap.size + 1 + 1 < w1.heap.size := (by omega)); (try have hx13 : w.heap.size + 1 + 1 + 1 < w1.heap.size := (by omega)))) | (go_at_call 91; ((with_reducible refine (eqPauliS (xs := xs2) ?_ ?_ HN2.out hb2).mono ?_); (exact HA2.out.mono (by (repeat' (first | (with_reducible exact Below.refl _ _) | (with_reducible assumption) | (with_reducible refine Below.alloc ?_ ?_ _) | (with_reducible refine Below.drew ?_) | (with_reducible refine bdN ?_ _) | (with_reducible refine Below.setCell ?_ ?_ _) | (with_reducible refine chn ?_ (by assumption) ?_) | omega | (simp; done) | (simp; omega))))); (exact HB2.out.mono (by (repeat' (first | (with_reducible exact Below.refl _ _) | (with_reducible assumption) | (with_reducible refine Below.alloc ?_ ?_ _) | (with_reducible refine Below.drew ?_) | (with_reducible refine bdN ?_ _) | (with_reducible refine Below.setCell ?_ ?_ _) | (with_reducible refine chn ?_ (by assumption) ?_) | omega | (simp; done) | (simp; omega))))); rintro ee w2 ⟨rfl, hb2⟩; obtain ⟨hc2, hf2, _⟩ := bcl hb2; have hz2 := hb2.size; (try simp at hz2); (try have hx20 : w.heap.size < w2.heap.size := (by omega)); (try have hx21 : w.heap.size + 1 < w2.heap.size := (by omega)); (try have hx22 : w.heap.size + 1 + 1 < w2.heap.size := (by omega)); (try have hx23 : w.heap.size + 1 + 1 + 1 < w2.heap.size := (by omega)))))
  go_ret
  refine ⟨rfl, ?_⟩
  (repeat' (first | (with_reducible exact Below.refl _ _) | (with_reducible assumption) | (with_reducible refine Below.alloc ?_ ?_ _) | (with_reducible refine Below.drew ?_) | (with_reducible refine bdN ?_ _) | (with_reducible refine Below.setCell ?_ ?_ _) | (with_reducible refine chn ?_ (by assumption) ?_) | omega | (simp; done) | (simp; omega)))

theorem Ow.kept {α : Type} {E : Enc α} {W W' : World} {B : Nat} {t : TypeId} {A : Option Addr} {xs : List α} {row : Option Nat} (h : Ow E W B t A xs) (hg : W.grownBy W' row) (hne : ∀ r, blk A = some r → row ≠ some r) : Ow E W' B t A xs := by
  rcases h with ⟨h1, h2⟩ | ⟨g, rfl, hg2, hB⟩
  · exact Or.inl ⟨h1, h2⟩
  · exact Or.inr ⟨g, rfl, hg2, hB.at_ (hg.block g hB.lt (fun e => hne g rfl e.symm))⟩
set_option maxRecDepth 100000 in
set_option maxHeartbeats 4000000 in
theorem markTableau {a0 : Int} {A1 : Option Addr} {n1 c1 : Nat} {A2 : Option Addr} {n2 c2 : Nat} {B1 B2 : Nat} {k : Int} {xs1 : List PauliV} {xs2 : List PauliV} {w : World} (hO1 : Ow pauliE w B1 43 A1 xs1) (hO2 : Ow pauliE w B2 43 A2 xs2) (hne : ∀ r, blk A1 = some r → blk A2 ≠ some r) (hn1 : xs1.length = n1) (hb1 : n1 ≤ 1048576) (hn2 : xs2.length = n2) (hb2 : n2 ≤ 1048576) (h0 : 0 ≤ k) (h1 : k ≤ 50000000) :
    Calls Try.prog 36 #[tableauV a0 A1 n1 c1 A2 n2 c2, .int .i64 k] w fun ee w' => ee = .returned (.int .i64 (k + 3 * (n1 : Int) + 3 * (n2 : Int))) ∧ Ow pauliE w' B1 43 A1 (mks PauliV.mark k n1) ∧ Ow pauliE w' B2 43 A2 (mks PauliV.mark (k + 3 * (n1 : Int)) n2) ∧ ∃ wm, w.grownBy wm (blk A1) ∧ wm.grownBy w' (blk A2) := by
  have HO1 := lay hO1
  have HN1 := lay hn1
  have hr1 := hO1.row
  clear hO1 hn1
  have HO2 := lay hO2
  have HN2 := lay hn2
  have hr2 := hO2.row
  clear hO2 hn2
  have HE := lay hne
  clear hne
  have k0 : 0 ≤ k + 3 * (n1 : Int) := by omega
  have k1 : k + 3 * (n1 : Int) ≤ 100000000 := by omega
  go_enter Try.func36, Try.ntmps36
  go_wp2_with (fail)
  refine (markPauliS (B := B1) (xs := xs1) ?_ HN1.out hb1 h0 (by omega)).mono ?_
  · exact HO1.out.mono (by (repeat' (first | (with_reducible exact Below.refl _ _) | (with_reducible assumption) | (with_reducible refine Below.alloc ?_ ?_ _) | (with_reducible refine Below.drew ?_) | (with_reducible refine bdN ?_ _) | (with_reducible refine Below.setCell ?_ ?_ _) | (with_reducible refine chn ?_ (by assumption) ?_) | omega | (simp; done) | (simp; omega))))
  rintro ee w1 ⟨rfl, hO1, hg1⟩
  have hz1 := hg1.size
  (try simp only [World.size_alloc] at hz1)
  have cb : ∀ o v, (w.alloc (.cells #[.int .i64 a0, .slice (A1) n1 c1, .slice (A2) n2 c2] 53)).cell? ⟨w.heap.size, o, none⟩ = some v → w1.cell? ⟨w.heap.size, o, none⟩ = some v := fun o v h => hg1.cell h (fun e => by have := hr1 (w.heap.size) e.symm; omega)
  have kb : Bb (w.alloc (.cells #[.int .i64 a0, .slice (A1) n1 c1, .slice (A2) n2 c2] 53)) w.heap.size 53 #[.int .i64 a0, .slice (A1) n1 c1, .slice (A2) n2 c2] := Bb.new rfl
  have cc0 := cb 0 _ (kb.c 0 rfl)
  have cc1 := cb 1 _ (kb.c 1 rfl)
  have cc2 := cb 2 _ (kb.c 2 rfl)
  clear cb kb
  have HM1 := lay hO1
  have G1 := lay (grwAl hg1)
  have HZ := lay (HO2.out.kept (grwAl hg1) (fun r hr he => HE.out r he hr))
  clear hO1 hg1
  go_wp2_with (fail)
  refine (markPauliS (B := B2) (xs := xs2) HZ.out HN2.out hb2 k0 k1).mono ?_
  rintro ee w2 ⟨rfl, hO2, hg2⟩
  have HM2 := lay hO2
  have G2 := lay hg2
  clear hO2 hg2
  go_wp2_with (fail)
  go_ret
  refine ⟨rfl, HM1.out.kept G2.out (fun r hr he => HE.out r hr he), HM2.out, w1, G1.out, G2.out⟩

set_option maxRecDepth 100000 in
set_option maxHeartbeats 4000000 in
theorem heldTableau {a0 : Int} {A1 : Option Addr} {n1 c1 : Nat} {A2 : Option Addr} {n2 c2 : Nat} {k : Int} {w : World} (hA1 : Rd pauliE w A1 (mks PauliV.mark k n1)) (hA2 : Rd pauliE w A2 (mks PauliV.mark (k + 3 * (n1 : Int)) n2)) (hb1 : n1 ≤ 1048576) (hb2 : n2 ≤ 1048576) (h0 : 0 ≤ k) (h1 : k ≤ 50000000) :
    Calls Try.prog 37 #[tableauV a0 A1 n1 c1 A2 n2 c2, .int .i64 k] w fun ee w' => ee = .returned (.int .i64 (k + 3 * (n1 : Int) + 3 * (n2 : Int))) ∧ Below w.heap.size w w' := by
  have HA1 := lay hA1
  clear hA1
  have HA2 := lay hA2
  clear hA2
  have k0 : 0 ≤ k + 3 * (n1 : Int) := by omega
  have k1 : k + 3 * (n1 : Int) ≤ 100000000 := by omega
  have k2 : ¬ (k + 3 * (n1 : Int) < 0) := by omega
  have k3 : ¬ (k + 3 * (n1 : Int) + 3 * (n2 : Int) < 0) := by omega
  go_enter Try.func37, Try.ntmps37
  go_wp2_with (first | (go_at_call 95; ((with_reducible refine (heldPauliS ?_ hb1 h0 (by omega)).mono ?_); (exact HA1.out.mono (by (repeat' (first | (with_reducible exact Below.refl _ _) | (with_reducible assumption) | (with_reducible refine Below.alloc ?_ ?_ _) | (with_reducible refine Below.drew ?_) | (with_reducible refine bdN ?_ _) | (with_reducible refine Below.setCell ?_ ?_ _) | (with_reducible refine chn ?_ (by assumption) ?_) | omega | (simp; done) | (simp; omega))))); rintro ee w1 ⟨rfl, hb1⟩; obtain ⟨hc1, hf1, _⟩ := bcl hb1; have hz1 := hb1.size; (try simp at hz1); (try have hx10 : w.heap.size < w1.heap.size := (by omega)); (try have hx11 : w.heap.size + 1 < w1.heap.size := (by omega)); (try have hx12 : w.heap.size + 1 + 1 < w1.heap.size := (by omega)); (try have hx13 : w.heap.size + 1 + 1 + 1 < w1.heap.size := (by omega)))) | (go_at_call 95; ((with_reducible refine (heldPauliS ?_ hb2 k0 k1).mono ?_); (exact HA2.out.mono (by (repeat' (first | (with_reducible exact Below.refl _ _) | (with_reducible assumption) | (with_reducible refine Below.alloc ?_ ?_ _) | (with_reducible refine Below.drew ?_) | (with_reducible refine bdN ?_ _) | (with_reducible refine Below.setCell ?_ ?_ _) | (with_reducible refine chn ?_ (by assumption) ?_) | omega | (simp; done) | (simp; omega))))); rintro ee w2 ⟨rfl, hb2⟩; obtain ⟨hc2, hf2, _⟩ := bcl hb2; have hz2 := hb2.size; (try simp at hz2); (try have hx20 : w.heap.size < w2.heap.size := (by omega)); (try have hx21 : w.heap.size + 1 < w2.heap.size := (by omega)); (try have hx22 : w.heap.size + 1 + 1 < w2.heap.size := (by omega)); (try have hx23 : w.heap.size + 1 + 1 + 1 < w2.heap.size := (by omega)))))
  go_ret
  refine ⟨rfl, ?_⟩
  (repeat' (first | (with_reducible exact Below.refl _ _) | (with_reducible assumption) | (with_reducible refine Below.alloc ?_ ?_ _) | (with_reducible refine Below.drew ?_) | (with_reducible refine bdN ?_ _) | (with_reducible refine Below.setCell ?_ ?_ _) | (with_reducible refine chn ?_ (by assumption) ?_) | omega | (simp; done) | (simp; omega)))

end Go.Proofs.Ytjedpeoafpljhaa.C4
