/- IsPhase: the law. -/
import Derived.Test.YtnjckeadcbfogaaIb
import Derived.Test.YtnjckeadcbfogaaZp21
import Derived.Test.YtnjckeadcbfogaaZp18
import Derived.Test.YtnjckeadcbfogaaZp19
import Derived.Test.YtnjckeadcbfogaaZp14
import Derived.Test.YtnjckeadcbfogaaZp4
namespace Go.Proofs.Ytnjckeadcbfogaa
open Go.RowKit RM
set_option linter.unusedVariables false
set_option linter.unusedSimpArgs false
attribute [local irreducible] World.setCell

open GM
theorem apl_ok {n D C : Nat} (hD : dimB (D : Int) = true) (hC : dimB (C : Int) = true) : ∀ (gs : List C4.GateV) (xs ys : List D5), (∀ (i : Nat) (g : C4.GateV), gs[i]? = some g → C4.vgB (n : Int) g = true) → okM (D : Int) (C : Int) (D * C) xs = true → apl n D C gs xs = some ys → okM (D : Int) (C : Int) (D * C) ys = true := by
  intro gs
  induction gs with
  | nil => intro xs ys _ hx h; obtain rfl := Option.some.inj h; exact hx
  | cons g gs ih =>
    intro xs ys hG hx h
    have h2 : (if stB n D C g xs then none else apl n D C gs (stF n D C g xs)) = some ys := h
    split at h2
    · cases h2
    · exact ih _ _ (fun i g hg => hG (i + 1) g (by rw [List.getElem?_cons_succ]; exact hg)) (stF_okM hD hC (vg_nat (hG 0 g rfl)).1 (okM_iff.1 hx).2.2.2) h2
theorem opL_ok {m n : Nat} {xs : List C4.GateV} {zs : List D5} (h1 : 1 ≤ m) (h5 : m ≤ 5) (hok : C4.okC (m : Int) n xs = true) (hq : opL m xs = some zs) : okM ((2 ^ m : Nat) : Int) ((2 ^ m : Nat) : Int) (2 ^ m * 2 ^ m) zs = true := by
  obtain ⟨m', e, -, -, -, hG⟩ := okC_nat hok
  obtain rfl : m = m' := by omega
  obtain ⟨d2, d32, dw, dw2, dd⟩ := pow_dim h1 h5 (D := 2 ^ m) rfl
  exact apl_ok dd dd xs _ zs hG (okM_iff.2 ⟨dd, dd, by simp, unit_ok _⟩) hq
set_option maxRecDepth 100000 in
set_option maxHeartbeats 4000000 in
theorem bigIsPhase {a0 : Int} {A : Option Addr} {n cp : Nat} {w : World} (hb : 1048576 < n) (hm : n ≤ maxLen) :
    Calls Try.prog 8 #[C4.circuitV a0 A n cp] w fun ee w' => ee = .returned (.bool true) ∧ Below w.heap.size w w' := by
  have hu : n ≤ 9223372036854775807 := by unfold maxLen at hm; omega
  have hb0 : (1048576 : Int) < (n : Int) := by omega
  have hb1 : 1048576 ≤ (1048576 : Int) := by omega
  have hb2 : (0 : Int) ≤ 1048576 := by omega
  go_enter Try.func8, Try.ntmps8
  go_wp2_with (fail)
  refine (C4.szCircuit_f hb0 hb1 hb2 hm).mono ?_
  rintro ee v ⟨rfl, hv⟩
  go_wp2_with (fail)
  go_ret
  refine ⟨rfl, ?_⟩
  (repeat' (first | (with_reducible exact Below.refl _ _) | (with_reducible assumption) | (with_reducible refine Below.alloc ?_ ?_ _) | (with_reducible refine Below.drew ?_) | (with_reducible refine below_drewN ?_ _) | (with_reducible refine Below.setCell ?_ ?_ _) | (with_reducible refine chain ?_ (by assumption) ?_) | omega | (simp; done) | (simp; omega)))

set_option maxRecDepth 100000 in
set_option maxHeartbeats 8000000 in
theorem lwIsPhase {a0 : Int} {A : Option Addr} {n cp : Nat} {xs : List C4.GateV} {K : Int} {b1 b2 : Bool} {w : World} (hS : ∀ (g : Nat) (w : World), C4.Rd C4.gateE w (some ⟨g, 0, none⟩) xs → g < w.heap.size → Calls Try.prog 40 #[C4.circuitV a0 (some ⟨g, 0, none⟩) n n] w fun ee w' => ee = .returned (.tuple #[.int .i64 K, .bool b1, .bool b2]) ∧ Below w.heap.size w w') (hI : ∀ (g : Nat) (w : World), C4.Rd C4.gateE w (some ⟨g, 0, none⟩) xs → g < w.heap.size → Calls Try.prog 41 #[C4.circuitV a0 (some ⟨g, 0, none⟩) n n] w fun ee w' => ee = .returned (.tuple #[.int .i64 K, .bool b1, .bool b2]) ∧ Below w.heap.size w w') (hA : C4.Rd C4.gateE w A xs) (hn : xs.length = n) (hb : n ≤ 1048576) :
    Calls Try.prog 8 #[C4.circuitV a0 A n cp] w fun ee w' => ee = .returned (.bool true) ∧ Below w.heap.size w w' := by
  have HA := hid hA
  have HN := hid hn
  have HS := hid hS
  have HI := hid hI
  have s0 : ¬ (1048576 - (n : Int) < 0) := by omega
  have s1 : (n : Int) ≤ 1048576 := by omega
  have s2 : 0 ≤ 1048576 - (n : Int) := by omega
  clear hA hn hS hI
  go_enter Try.func8, Try.ntmps8
  go_wp2_with (fail)
  refine (C4.szCircuit_t s1 (by decide)).mono ?_
  rintro ee w1 ⟨rfl, hb1⟩
  have hL1 : Below w.heap.size w w1 := by (repeat' (first | (with_reducible exact Below.refl _ _) | (with_reducible assumption) | (with_reducible refine Below.alloc ?_ ?_ _) | (with_reducible refine Below.drew ?_) | (with_reducible refine below_drewN ?_ _) | (with_reducible refine Below.setCell ?_ ?_ _) | (with_reducible refine chain ?_ (by assumption) ?_) | omega | (simp; done) | (simp; omega)))
  have hz1 := hb1.size
  (try simp only [World.size_alloc] at hz1)
  have hB1 : Below w.heap.size w w1 := hL1
  have k1_0_0 : w1.cell? ⟨w.heap.size, 0, none⟩ = some (.int .i64 a0) := (hb1.cell (p := ⟨w.heap.size, 0, none⟩) (by show w.heap.size < _; (try simp only [World.size_alloc]); omega)).trans (by first | rfl | (simp; done) | (simp [*]; done))
  have k1_0_1 : w1.cell? ⟨w.heap.size, 1, none⟩ = some (.slice A n cp) := (hb1.cell (p := ⟨w.heap.size, 1, none⟩) (by show w.heap.size < _; (try simp only [World.size_alloc]); omega)).trans (by first | rfl | (simp; done) | (simp [*]; done))
  have bl1_0 : w.heap.size < w1.heap.size := World.block_lt_of_cell? _ _ k1_0_0
  clear hb1 hL1
  go_wp2_with (fail)
  refine (C4.toCircuit (xs1 := xs) ?_ HN.out hb).mono ?_
  · exact HA.out.mono (by (repeat' (first | (with_reducible exact Below.refl _ _) | (with_reducible assumption) | (with_reducible refine Below.alloc ?_ ?_ _) | (with_reducible refine Below.drew ?_) | (with_reducible refine below_drewN ?_ _) | (with_reducible refine Below.setCell ?_ ?_ _) | (with_reducible refine chain ?_ (by assumption) ?_) | omega | (simp; done) | (simp; omega))))
  rintro ee w2 ⟨g2, rfl, hK2, hg2, hb2⟩
  have hL2 : Below w1.heap.size w1 w2 := by (repeat' (first | (with_reducible exact Below.refl _ _) | (with_reducible assumption) | (with_reducible refine Below.alloc ?_ ?_ _) | (with_reducible refine Below.drew ?_) | (with_reducible refine below_drewN ?_ _) | (with_reducible refine Below.setCell ?_ ?_ _) | (with_reducible refine chain ?_ (by assumption) ?_) | omega | (simp; done) | (simp; omega)))
  have hz2 := hb2.size
  (try simp only [World.size_alloc] at hz2)
  have hB2 : Below w.heap.size w w2 := chain hB1 hL2 hB1.size
  have k2_0_0 : w2.cell? ⟨w.heap.size, 0, none⟩ = some (.int .i64 a0) := (hL2.cell (p := ⟨w.heap.size, 0, none⟩) (by show w.heap.size < w1.heap.size; omega)).trans k1_0_0
  have k2_0_1 : w2.cell? ⟨w.heap.size, 1, none⟩ = some (.slice A n cp) := (hL2.cell (p := ⟨w.heap.size, 1, none⟩) (by show w.heap.size < w1.heap.size; omega)).trans k1_0_1
  have bl2_0 : w.heap.size < w2.heap.size := World.block_lt_of_cell? _ _ k2_0_0
  clear hb2 hL2
  clear k1_0_0 k1_0_1
  go_wp2_with (fail)
  refine (HS.out _ _ ?_ hK2.lt).mono ?_
  · exact hK2.rd
  rintro ee w3 ⟨rfl, hb3⟩
  have hL3 : Below w2.heap.size w2 w3 := by (repeat' (first | (with_reducible exact Below.refl _ _) | (with_reducible assumption) | (with_reducible refine Below.alloc ?_ ?_ _) | (with_reducible refine Below.drew ?_) | (with_reducible refine below_drewN ?_ _) | (with_reducible refine Below.setCell ?_ ?_ _) | (with_reducible refine chain ?_ (by assumption) ?_) | omega | (simp; done) | (simp; omega)))
  have hz3 := hb3.size
  (try simp only [World.size_alloc] at hz3)
  have hB3 : Below w.heap.size w w3 := chain hB2 hL3 hB2.size
  have k3_0_0 : w3.cell? ⟨w.heap.size, 0, none⟩ = some (.int .i64 a0) := (hL3.cell (p := ⟨w.heap.size, 0, none⟩) (by show w.heap.size < w2.heap.size; omega)).trans k2_0_0
  have k3_0_1 : w3.cell? ⟨w.heap.size, 1, none⟩ = some (.slice A n cp) := (hL3.cell (p := ⟨w.heap.size, 1, none⟩) (by show w.heap.size < w2.heap.size; omega)).trans k2_0_1
  have bl3_0 : w.heap.size < w3.heap.size := World.block_lt_of_cell? _ _ k3_0_0
  clear hb3 hL3
  clear k2_0_0 k2_0_1
  clear hK2
  go_wp2_with (fail)
  refine (C4.toCircuit (xs1 := xs) ?_ HN.out hb).mono ?_
  · exact HA.out.mono (by (repeat' (first | (with_reducible exact Below.refl _ _) | (with_reducible assumption) | (with_reducible refine Below.alloc ?_ ?_ _) | (with_reducible refine Below.drew ?_) | (with_reducible refine below_drewN ?_ _) | (with_reducible refine Below.setCell ?_ ?_ _) | (with_reducible refine chain ?_ (by assumption) ?_) | omega | (simp; done) | (simp; omega))))
  rintro ee w4 ⟨g4, rfl, hK4, hg4, hb4⟩
  have hL4 : Below w3.heap.size w3 w4 := by (repeat' (first | (with_reducible exact Below.refl _ _) | (with_reducible assumption) | (with_reducible refine Below.alloc ?_ ?_ _) | (with_reducible refine Below.drew ?_) | (with_reducible refine below_drewN ?_ _) | (with_reducible refine Below.setCell ?_ ?_ _) | (with_reducible refine chain ?_ (by assumption) ?_) | omega | (simp; done) | (simp; omega)))
  have hz4 := hb4.size
  (try simp only [World.size_alloc] at hz4)
  have hB4 : Below w.heap.size w w4 := chain hB3 hL4 hB3.size
  have k4_0_0 : w4.cell? ⟨w.heap.size, 0, none⟩ = some (.int .i64 a0) := (hL4.cell (p := ⟨w.heap.size, 0, none⟩) (by show w.heap.size < w3.heap.size; omega)).trans k3_0_0
  have k4_0_1 : w4.cell? ⟨w.heap.size, 1, none⟩ = some (.slice A n cp) := (hL4.cell (p := ⟨w.heap.size, 1, none⟩) (by show w.heap.size < w3.heap.size; omega)).trans k3_0_1
  have bl4_0 : w.heap.size < w4.heap.size := World.block_lt_of_cell? _ _ k4_0_0
  clear hb4 hL4
  clear k3_0_0 k3_0_1
  (try simp only [World.size_alloc] at hg4)
  have HX4 : Hid (C4.Ow C4.gateE w4 (w3.heap.size) 161 (some ⟨g4, 0, none⟩) xs) := hK4.ow (by omega)
  have hlt4 := hK4.lt
  clear hK4
  have hr_X := HX4.out.row
  go_wp2_with (fail)
  refine (HI.out _ _ ?_ ?_).mono ?_
  · exact HX4.out.rd.mono (by (repeat' (first | (with_reducible exact Below.refl _ _) | (with_reducible assumption) | (with_reducible refine Below.alloc ?_ ?_ _) | (with_reducible refine Below.drew ?_) | (with_reducible refine below_drewN ?_ _) | (with_reducible refine Below.setCell ?_ ?_ _) | (with_reducible refine chain ?_ (by assumption) ?_) | omega | (simp; done) | (simp; omega))))
  · exact (by (try simp only [World.size_alloc]); omega)
  rintro ee w5 ⟨rfl, hb5⟩
  have hL5 : Below w4.heap.size w4 w5 := by (repeat' (first | (with_reducible exact Below.refl _ _) | (with_reducible assumption) | (with_reducible refine Below.alloc ?_ ?_ _) | (with_reducible refine Below.drew ?_) | (with_reducible refine below_drewN ?_ _) | (with_reducible refine Below.setCell ?_ ?_ _) | (with_reducible refine chain ?_ (by assumption) ?_) | omega | (simp; done) | (simp; omega)))
  have hz5 := hb5.size
  (try simp only [World.size_alloc] at hz5)
  have hB5 : Below w.heap.size w w5 := chain hB4 hL5 hB4.size
  have k5_0_0 : w5.cell? ⟨w.heap.size, 0, none⟩ = some (.int .i64 a0) := (hL5.cell (p := ⟨w.heap.size, 0, none⟩) (by show w.heap.size < w4.heap.size; omega)).trans k4_0_0
  have k5_0_1 : w5.cell? ⟨w.heap.size, 1, none⟩ = some (.slice A n cp) := (hL5.cell (p := ⟨w.heap.size, 1, none⟩) (by show w.heap.size < w4.heap.size; omega)).trans k4_0_1
  have k5_1_0 : w5.cell? ⟨w4.heap.size, 0, none⟩ = some (.int .i64 a0) := (hb5.cell (p := ⟨w4.heap.size, 0, none⟩) (by show w4.heap.size < _; (try simp only [World.size_alloc]); omega)).trans (by first | rfl | (simp; done) | (simp [*]; done))
  have k5_1_1 : w5.cell? ⟨w4.heap.size, 1, none⟩ = some (.slice (some ⟨g4, 0, none⟩) n n) := (hb5.cell (p := ⟨w4.heap.size, 1, none⟩) (by show w4.heap.size < _; (try simp only [World.size_alloc]); omega)).trans (by first | rfl | (simp; done) | (simp [*]; done))
  have bl5_0 : w.heap.size < w5.heap.size := World.block_lt_of_cell? _ _ k5_0_0
  have bl5_1 : w4.heap.size < w5.heap.size := World.block_lt_of_cell? _ _ k5_1_0
  have HX5 := hid (HX4.out.mono hL5)
  clear hb5 hL5
  clear k4_0_0 k4_0_1 HX4
  go_wp2_with (fail)
  go_cut [48] (fun s48 wx => CutG (s48 = .bool false) (wx.cell? ⟨w.heap.size, 0, none⟩ = some (.int .i64 a0) ∧ wx.cell? ⟨w.heap.size, 1, none⟩ = some (.slice A n cp) ∧ wx.cell? ⟨w4.heap.size, 0, none⟩ = some (.int .i64 a0) ∧ wx.cell? ⟨w4.heap.size, 1, none⟩ = some (.slice (some ⟨g4, 0, none⟩) n n) ∧ Hid (C4.Ow C4.gateE wx (w3.heap.size) 161 (some ⟨g4, 0, none⟩) xs) ∧ w5.heap.size ≤ wx.heap.size ∧ Below w.heap.size w wx))
  case first =>
    have yk5_0_0 : w5.drew.cell? ⟨w.heap.size, 0, none⟩ = some (.int .i64 a0) := k5_0_0
    have yk5_0_1 : w5.drew.cell? ⟨w.heap.size, 1, none⟩ = some (.slice A n cp) := k5_0_1
    have yk5_1_0 : w5.drew.cell? ⟨w4.heap.size, 0, none⟩ = some (.int .i64 a0) := k5_1_0
    have yk5_1_1 : w5.drew.cell? ⟨w4.heap.size, 1, none⟩ = some (.slice (some ⟨g4, 0, none⟩) n n) := k5_1_1
    have hBz := hB5.size
    go_region_held3 (fun w' => w'.cell? ⟨w.heap.size, 0, none⟩ = some (.int .i64 a0) ∧ w'.cell? ⟨w.heap.size, 1, none⟩ = some (.slice A n cp) ∧ w'.cell? ⟨w4.heap.size, 0, none⟩ = some (.int .i64 a0) ∧ w'.cell? ⟨w4.heap.size, 1, none⟩ = some (.slice (some ⟨g4, 0, none⟩) n n)) (first | (with_reducible exact ⟨yk5_0_0, yk5_0_1, yk5_1_0, yk5_1_1⟩) | (with_reducible exact ⟨k5_0_0, k5_0_1, k5_1_0, k5_1_1⟩) | (go_split_ands; with_reducible exact ⟨kc hv0 (by with_reducible assumption), kc hv0 (by with_reducible assumption), kc hv0 (by with_reducible assumption), kc hv0 (by with_reducible assumption)⟩) | (go_split_ands; with_reducible exact ⟨kc hv1 (by with_reducible assumption), kc hv1 (by with_reducible assumption), kc hv1 (by with_reducible assumption), kc hv1 (by with_reducible assumption)⟩)) (first | (go_at_call 32; ((with_reducible refine (C4.toCircuit (xs1 := xs) ?_ HN.out hb).mono ?_); (exact HA.out.mono (by (repeat' (first | (with_reducible exact Below.refl _ _) | (with_reducible assumption) | (with_reducible refine Below.alloc ?_ ?_ _) | (with_reducible refine Below.drew ?_) | (with_reducible refine below_drewN ?_ _) | (with_reducible refine Below.setCell ?_ ?_ _) | (with_reducible refine chain ?_ (by assumption) ?_) | omega | (simp; done) | (simp; omega))))); rintro ee v0 ⟨g7, rfl, hK0, hg7, hv0⟩; have hq0 := hv0.size; (try simp only [World.size_drew, World.size_alloc] at hq0))) | (go_at_call 34; ((with_reducible refine (C4.eqCircuit (xs1 := xs) ?_ ?_ HN.out hb).mono ?_); (exact HX5.out.rd.mono (by (repeat' (first | (with_reducible exact Below.refl _ _) | (with_reducible assumption) | (with_reducible refine Below.alloc ?_ ?_ _) | (with_reducible refine Below.drew ?_) | (with_reducible refine below_drewN ?_ _) | (with_reducible refine Below.setCell ?_ ?_ _) | (with_reducible refine chain ?_ (by assumption) ?_) | omega | (simp; done) | (simp; omega))))); (exact hK0.rd); rintro ee v1 ⟨rfl, hv1⟩; have hq1 := hv1.size; (try simp only [World.size_drew, World.size_alloc] at hq1))))
    all_goals (go_wp2_with fail; go_meet)
    all_goals go_split_ands
    all_goals (refine ⟨rfl, (by with_reducible assumption), (by with_reducible assumption), (by with_reducible assumption), (by with_reducible assumption), (by exact HX5.out.mono (by (repeat' (first | (with_reducible exact Below.refl _ _) | (with_reducible assumption) | (with_reducible refine Below.alloc ?_ ?_ _) | (with_reducible refine Below.drew ?_) | (with_reducible refine below_drewN ?_ _) | (with_reducible refine Below.setCell ?_ ?_ _) | (with_reducible refine chain ?_ (by assumption) ?_) | omega | (simp; done) | (simp; omega))))), (by (try simp only [World.size_alloc, World.size_drew, World.size_setCell]); omega), (by (repeat' (first | (with_reducible exact Below.refl _ _) | (with_reducible assumption) | (with_reducible refine Below.alloc ?_ ?_ _) | (with_reducible refine Below.drew ?_) | (with_reducible refine below_drewN ?_ _) | (with_reducible refine Below.setCell ?_ ?_ _) | (with_reducible refine chain ?_ (by assumption) ?_) | omega | (simp; done) | (simp; omega))))⟩)
  case rest =>
    obtain ⟨w6, rfl⟩ : ∃ w6, w6 = wc := ⟨_, rfl⟩
    clear k5_0_0 k5_0_1 k5_1_0 k5_1_1 HX5
    obtain ⟨rfl, k6_0_0, k6_0_1, k6_1_0, k6_1_1, HX6, hz6, hB6⟩ := hcut
    have bl6_0 : w.heap.size < w6.heap.size := World.block_lt_of_cell? _ _ k6_0_0
    have bl6_1 : w4.heap.size < w6.heap.size := World.block_lt_of_cell? _ _ k6_1_0
    go_wp2_with (fail)
    go_ret
    exact ⟨rfl, hB6⟩

theorem fnExactIsPhase_walk {a0 : Int} {A : Option Addr} {n cp : Nat} {xs : List C4.GateV} {w : World} (hA : C4.Rd C4.gateE w A xs) (hn : xs.length = n) (hm : n ≤ maxLen) :
    Calls Try.prog 8 #[C4.circuitV a0 A n cp] w fun ee w' => ee = .returned (.bool true) ∧ Below w.heap.size w w' := by
  by_cases hb : 1048576 < n
  · exact bigIsPhase hb hm
  cases hok : C4.okC a0 n xs
  · exact lwIsPhase (K := 0) (b1 := false) (b2 := false) (fun g w hR hg => ip_s_f (gs := xs) (fun W hW => op_s_f (hR.mono hW) hn hm hok)) (fun g w hR hg => ip_i_f (gs := xs) (fun W hW => op_i_f (hR.mono hW) hn hm hok)) hA hn (by omega)
  · obtain ⟨m, rfl, h1, h5, -, -⟩ := okC_nat hok
    obtain ⟨d2, d32, dw, dw2, dd⟩ := pow_dim h1 h5 (D := 2 ^ m) rfl
    clear dw dw2
    cases hq : opL m xs with
    | none =>
      exact lwIsPhase (K := 0) (b1 := false) (b2 := false) (fun g w hR hg => ip_s_f (gs := xs) (fun W hW => (op_s_t (hR.mono hW) hn hok (fun a ha => by obtain rfl := Option.some.inj ha; exact Nat.lt_of_lt_of_le hg hW.size)).mono fun ee w' h => ⟨h.1 hq, h.2.2⟩)) (fun g w hR hg => ip_i_f (gs := xs) (fun W hW => (op_i_t (hR.mono hW) hn hok).mono fun ee w' h => ⟨h.1 hq, h.2.2⟩)) hA hn (by omega)
    | some zs =>
      have hl : zs.length = 2 ^ m * 2 ^ m := apl_len xs _ zs hq (tab_len _ _)
      have hzs : okM ((2 ^ m : Nat) : Int) ((2 ^ m : Nat) : Int) (2 ^ m * 2 ^ m) zs = true := opL_ok h1 h5 hok hq
      rcases ph_any (badK ((2 ^ m : Nat) : Int) ((2 ^ m : Nat) : Int) ((2 ^ m : Nat) : Int) ((2 ^ m : Nat) : Int) (2 ^ m * 2 ^ m) zs (tab (2 ^ m * 2 ^ m) (unitP (2 ^ m) (2 ^ m)))) with ⟨K, k1, k2, k3⟩ | k
      · exact lwIsPhase (K := (K : Int)) (b1 := true) (b2 := true) (fun g w hR hg => (ip_s_t (gs := xs) (D := 2 ^ m) (NN := 2 ^ m * 2 ^ m) (zs := zs) (fun W hW => (op_s_t (hR.mono hW) hn hok (fun a ha => by obtain rfl := Option.some.inj ha; exact Nat.lt_of_lt_of_le hg hW.size)).mono fun ee w' h => by obtain ⟨Bo, cq, he, hr, -⟩ := h.2.1 zs hq; exact ⟨Bo, cq, he, hr, h.2.2⟩) hl rfl (Nat.le_trans (by decide) d2) d32).mono fun ee w' q => ⟨q.1 K k1 k2 k3, q.2.2⟩) (fun g w hR hg => (ip_i_t (gs := xs) (D := 2 ^ m) (NN := 2 ^ m * 2 ^ m) (zs := zs) (fun W hW => (op_i_t (hR.mono hW) hn hok).mono fun ee w' h => by obtain ⟨b, he, hk, hg⟩ := h.2.1 zs hq; exact ⟨b, he, hk, h.2.2⟩) hl rfl (Nat.le_trans (by decide) d2) d32 hzs).mono fun ee w' q => ⟨q.1 K k1 k2 k3, q.2.2⟩) hA hn (by omega)
      · exact lwIsPhase (K := 0) (b1 := false) (b2 := true) (fun g w hR hg => (ip_s_t (gs := xs) (D := 2 ^ m) (NN := 2 ^ m * 2 ^ m) (zs := zs) (fun W hW => (op_s_t (hR.mono hW) hn hok (fun a ha => by obtain rfl := Option.some.inj ha; exact Nat.lt_of_lt_of_le hg hW.size)).mono fun ee w' h => by obtain ⟨Bo, cq, he, hr, -⟩ := h.2.1 zs hq; exact ⟨Bo, cq, he, hr, h.2.2⟩) hl rfl (Nat.le_trans (by decide) d2) d32).mono fun ee w' q => ⟨q.2.1 k, q.2.2⟩) (fun g w hR hg => (ip_i_t (gs := xs) (D := 2 ^ m) (NN := 2 ^ m * 2 ^ m) (zs := zs) (fun W hW => (op_i_t (hR.mono hW) hn hok).mono fun ee w' h => by obtain ⟨b, he, hk, hg⟩ := h.2.1 zs hq; exact ⟨b, he, hk, h.2.2⟩) hl rfl (Nat.le_trans (by decide) d2) d32 hzs).mono fun ee w' q => ⟨q.2.1 k, q.2.2⟩) hA hn (by omega)

end Go.Proofs.Ytnjckeadcbfogaa
