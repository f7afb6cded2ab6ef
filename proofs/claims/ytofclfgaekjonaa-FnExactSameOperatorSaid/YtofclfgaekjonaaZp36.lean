/- Sob, LwSameOperator -/
import Derived.Test.YtofclfgaekjonaaZp35
import Derived.Test.YtofclfgaekjonaaZp34
import Derived.Test.YtofclfgaekjonaaZp32
import Derived.Test.YtofclfgaekjonaaZp1
import Derived.Deep.RegionHeld3
import Derived.Deep.DeepCutAuto
namespace Go.Proofs.Ytofclfgaekjonaa
open Go.RowKit RM
set_option linter.unusedVariables false
set_option linter.unusedSimpArgs false
attribute [local irreducible] World.setCell

open GM
/-- what OperatorOf answers on a circuit, in the program and in the model -/
structure OpC (a0 : Int) (m : Nat) (gs : List C4.GateV) (r s : Int) (k : Nat) (zs : List D5) (ok : Bool) : Prop where
  sp : ∀ (A : Option Addr) (c : Nat) (w W : World), C4.Rd C4.gateE w A gs → (∀ a, A = some a → a.block < w.heap.size) → Below w.heap.size w W → Calls Try.prog 64 #[C4.circuitV a0 A m c] W fun ee w' => ∃ (Bo : Option Addr) (cq : Nat), ee = .returned (mt r s Bo k cq ok) ∧ Rd w' Bo zs ∧ Below W.heap.size W w'
  im : ∀ (A : Option Addr) (c : Nat) (w W : World), C4.Rd C4.gateE w A gs → Below w.heap.size w W → Calls Try.prog 67 #[C4.circuitV a0 A m c] W fun ee w' => ∃ (Bo : Option Addr) (cq : Nat), ee = .returned (mt r s Bo k cq ok) ∧ Rd w' Bo zs ∧ Below W.heap.size W w'
  len : zs.length = k
  good : ok = true → okM r s k zs = true
theorem opC {a0 : Int} {m : Nat} {gs : List C4.GateV} (hm : gs.length = m) (hmx : m ≤ maxLen) : ∃ (r s : Int) (k : Nat) (zs : List D5) (ok : Bool), OpC a0 m gs r s k zs ok := by
  cases hok : C4.okC a0 m gs
  · refine ⟨0, 0, 0, [], false, ?_, ?_, rfl, fun h => by cases h⟩
    · intro A c w W hR hA hW
      exact (op_s_f (hR.mono hW) hm hmx hok).mono fun ee w' h => by obtain ⟨A, cp, he, ⟨hr, -⟩, hb⟩ := zero_law h; exact ⟨A, cp, he, hr, hb⟩
    · intro A c w W hR hW
      exact (op_i_f (hR.mono hW) hm hmx hok).mono fun ee w' h => by obtain ⟨A, cp, he, ⟨hr, -⟩, hb⟩ := zero_law h; exact ⟨A, cp, he, hr, hb⟩
  · obtain ⟨n, rfl, h1, h5, -, -⟩ := okC_nat hok
    cases hq : opL n gs with
    | none =>
      refine ⟨0, 0, 0, [], false, ?_, ?_, rfl, fun h => by cases h⟩
      · intro A c w W hR hA hW
        exact (op_s_t (hR.mono hW) hm hok (fun a ha => Nat.lt_of_lt_of_le (hA a ha) hW.size)).mono fun ee w' h => by obtain ⟨A, cp, he, ⟨hr, -⟩, hb⟩ := zero_law ⟨h.1 hq, h.2.2⟩; exact ⟨A, cp, he, hr, hb⟩
      · intro A c w W hR hW
        exact (op_i_t (hR.mono hW) hm hok).mono fun ee w' h => by obtain ⟨A, cp, he, ⟨hr, -⟩, hb⟩ := zero_law ⟨h.1 hq, h.2.2⟩; exact ⟨A, cp, he, hr, hb⟩
    | some zs =>
      refine ⟨((2 ^ n : Nat) : Int), ((2 ^ n : Nat) : Int), 2 ^ n * 2 ^ n, zs, true, ?_, ?_, apl_len gs _ zs hq (tab_len _ _), fun _ => opL_ok h1 h5 hok hq⟩
      · intro A c w W hR hA hW
        exact (op_s_t (hR.mono hW) hm hok (fun a ha => Nat.lt_of_lt_of_le (hA a ha) hW.size)).mono fun ee w' h => by obtain ⟨Bo, cq, he, hr, -⟩ := h.2.1 zs hq; exact ⟨Bo, cq, he, hr, h.2.2⟩
      · intro A c w W hR hW
        exact (op_i_t (hR.mono hW) hm hok).mono fun ee w' h => by obtain ⟨b, he, hk, hg⟩ := h.2.1 zs hq; exact ⟨_, _, he, hk.rd, h.2.2⟩
/-- what SameOperator answers, in both -/
theorem soC {a0 b0 : Int} {m p : Nat} {gs hs : List C4.GateV} (hm : gs.length = m) (hmx : m ≤ maxLen) (hp : hs.length = p) (hpx : p ≤ maxLen) : ∃ r0 r1 : Bool, (∀ (A B : Option Addr) (c d : Nat) (w : World), C4.Rd C4.gateE w A gs → C4.Rd C4.gateE w B hs → (∀ a, A = some a → a.block < w.heap.size) → (∀ a, B = some a → a.block < w.heap.size) → Calls Try.prog 21 #[C4.circuitV a0 A m c, C4.circuitV b0 B p d] w fun ee w' => ee = .returned (.tuple #[.bool r0, .bool r1]) ∧ Below w.heap.size w w') ∧ (∀ (A B : Option Addr) (c d : Nat) (w : World), C4.Rd C4.gateE w A gs → C4.Rd C4.gateE w B hs → Calls Try.prog 23 #[C4.circuitV a0 A m c, C4.circuitV b0 B p d] w fun ee w' => ee = .returned (.tuple #[.bool r0, .bool r1]) ∧ Below w.heap.size w w') := by
  obtain ⟨r1, s1, k1, zs, ok1, O1⟩ := opC (a0 := a0) hm hmx
  obtain ⟨r2, s2, k2, ys, ok2, O2⟩ := opC (a0 := b0) hp hpx
  cases ok1
  · exact ⟨false, false, fun A B c d w hA hB lA lB => so_s_f1 (fun W hW => O1.sp A c w W hA lA hW) (fun W hW => O2.sp B d w W hB lB hW), fun A B c d w hA hB => so_i_f1 (fun W hW => O1.im A c w W hA hW) (fun W hW => O2.im B d w W hB hW)⟩
  cases ok2
  · exact ⟨false, false, fun A B c d w hA hB lA lB => so_s_f2 (fun W hW => O1.sp A c w W hA lA hW) (fun W hW => O2.sp B d w W hB lB hW), fun A B c d w hA hB => so_i_f2 (fun W hW => O1.im A c w W hA hW) (fun W hW => O2.im B d w W hB hW)⟩
  by_cases he : a0 = b0
  · rcases ph_any (badK r1 s1 r2 s2 k1 zs ys) with ⟨K, q1, q2, q3⟩ | k
    · exact ⟨true, true, fun A B c d w hA hB lA lB => (so_s_t (fun W hW => O1.sp A c w W hA lA hW) (fun W hW => O2.sp B d w W hB lB hW) he O1.len O2.len (O1.good rfl) (O2.good rfl)).mono fun ee w' q => ⟨q.1 K q1 q2 q3, q.2.2⟩, fun A B c d w hA hB => (so_i_t (fun W hW => O1.im A c w W hA hW) (fun W hW => O2.im B d w W hB hW) he O1.len O2.len (O1.good rfl) (O2.good rfl)).mono fun ee w' q => ⟨q.1 K q1 q2 q3, q.2.2⟩⟩
    · exact ⟨false, true, fun A B c d w hA hB lA lB => (so_s_t (fun W hW => O1.sp A c w W hA lA hW) (fun W hW => O2.sp B d w W hB lB hW) he O1.len O2.len (O1.good rfl) (O2.good rfl)).mono fun ee w' q => ⟨q.2.1 k, q.2.2⟩, fun A B c d w hA hB => (so_i_t (fun W hW => O1.im A c w W hA hW) (fun W hW => O2.im B d w W hB hW) he O1.len O2.len (O1.good rfl) (O2.good rfl)).mono fun ee w' q => ⟨q.2.1 k, q.2.2⟩⟩
  · exact ⟨false, false, fun A B c d w hA hB lA lB => so_s_f3 (fun W hW => O1.sp A c w W hA lA hW) (fun W hW => O2.sp B d w W hB lB hW) he, fun A B c d w hA hB => so_i_f3 (fun W hW => O1.im A c w W hA hW) (fun W hW => O2.im B d w W hB hW) he⟩
end Go.Proofs.Ytofclfgaekjonaa
namespace Go.Proofs.Ytofclfgaekjonaa.C4
open Go.RowKit
set_option linter.unusedVariables false
set_option linter.unusedSimpArgs false
attribute [local irreducible] World.setCell

set_option maxRecDepth 100000 in
set_option maxHeartbeats 4000000 in
theorem bigSameOperator0 {a0p0 : Int} {A1p0 : Option Addr} {n1p0 c1p0 : Nat} {a0p1 : Int} {A1p1 : Option Addr} {n1p1 c1p1 : Nat} {w : World} (hb : 1048576 < (n1p0 : Int)) (hm : n1p0 ≤ maxLen) :
    Calls Try.prog 4 #[(circuitV a0p0 A1p0 n1p0 c1p0), (circuitV a0p1 A1p1 n1p1 c1p1)] w fun ee w' => ee = .returned (.bool true) ∧ Below w.heap.size w w' := by
  have hu : n1p0 ≤ 9223372036854775807 := by unfold maxLen at hm; omega
  have hb0 : 1048576 < (n1p0 : Int) := by omega
  have hb1 : 1048576 ≤ (1048576 : Int) := by omega
  have hb2 : (0 : Int) ≤ 1048576 := by omega
  go_enter Try.func4, Try.ntmps4
  go_wp2_with (fail)
  refine (szCircuit_f hb0 hb1 hb2 hm).mono ?_
  rintro ee v ⟨rfl, hv⟩
  go_wp2_with (fail)
  go_ret
  refine ⟨rfl, ?_⟩
  (repeat' (first | (with_reducible exact Below.refl _ _) | (with_reducible assumption) | (with_reducible refine Below.alloc ?_ ?_ _) | (with_reducible refine Below.drew ?_) | (with_reducible refine bdN ?_ _) | (with_reducible refine Below.setCell ?_ ?_ _) | (with_reducible refine chn ?_ (by assumption) ?_) | omega | (simp; done) | (simp; omega)))

set_option maxRecDepth 100000 in
set_option maxHeartbeats 4000000 in
theorem bigSameOperator1 {a0p0 : Int} {A1p0 : Option Addr} {n1p0 c1p0 : Nat} {a0p1 : Int} {A1p1 : Option Addr} {n1p1 c1p1 : Nat} {w : World} (h0 : (n1p0 : Int) ≤ 1048576) (hb : 1048576 - (n1p0 : Int) < (n1p1 : Int)) (hm : n1p1 ≤ maxLen) :
    Calls Try.prog 4 #[(circuitV a0p0 A1p0 n1p0 c1p0), (circuitV a0p1 A1p1 n1p1 c1p1)] w fun ee w' => ee = .returned (.bool true) ∧ Below w.heap.size w w' := by
  have hu : n1p1 ≤ 9223372036854775807 := by unfold maxLen at hm; omega
  have m0 : ¬ (1048576 - (n1p0 : Int) < 0) := by omega
  have o0 : 0 ≤ 1048576 - (n1p0 : Int) := by omega
  have s0 : (n1p0 : Int) ≤ 1048576 := by omega
  have t0 : 1048576 ≤ (1048576 : Int) := by omega
  have hb0 : 1048576 - (n1p0 : Int) < (n1p1 : Int) := by omega
  have hb1 : 1048576 - (n1p0 : Int) ≤ (1048576 : Int) := by omega
  have hb2 : (0 : Int) ≤ 1048576 - (n1p0 : Int) := by omega
  go_enter Try.func4, Try.ntmps4
  go_wp2_with (fail)
  refine (szCircuit_t s0 t0).mono ?_
  rintro ee w1 ⟨rfl, hb_1⟩
  obtain ⟨hc1, hf1, _⟩ := bcl hb_1
  have hz1 := hb_1.size
  (try simp at hz1)
  (try have hx10 : w.heap.size < w1.heap.size := (by omega))
  (try have hx11 : w.heap.size + 1 < w1.heap.size := (by omega))
  (try have hx12 : w.heap.size + 1 + 1 < w1.heap.size := (by omega))
  (try have hx13 : w.heap.size + 1 + 1 + 1 < w1.heap.size := (by omega))
  (try have hx14 : w.heap.size + 1 + 1 + 1 + 1 < w1.heap.size := (by omega))
  go_wp2_with (fail)
  refine (szCircuit_f hb0 hb1 hb2 hm).mono ?_
  rintro ee v ⟨rfl, hv⟩
  go_wp2_with (fail)
  go_ret
  refine ⟨rfl, ?_⟩
  (repeat' (first | (with_reducible exact Below.refl _ _) | (with_reducible assumption) | (with_reducible refine Below.alloc ?_ ?_ _) | (with_reducible refine Below.drew ?_) | (with_reducible refine bdN ?_ _) | (with_reducible refine Below.setCell ?_ ?_ _) | (with_reducible refine chn ?_ (by assumption) ?_) | omega | (simp; done) | (simp; omega)))

set_option maxRecDepth 100000 in
set_option maxHeartbeats 16000000 in
theorem lwSameOperator {a0p0 : Int} {A1p0 : Option Addr} {n1p0 c1p0 : Nat} {xs1p0 : List GateV} {a0p1 : Int} {A1p1 : Option Addr} {n1p1 c1p1 : Nat} {xs1p1 : List GateV} {r0 : Bool} {r1 : Bool} {w : World} (hS : ∀ (g1p0 g1p1 : Nat) (w : World), Rd gateE w (some ⟨g1p0, 0, none⟩) xs1p0 → g1p0 < w.heap.size → Rd gateE w (some ⟨g1p1, 0, none⟩) xs1p1 → g1p1 < w.heap.size → Calls Try.prog 21 #[circuitV a0p0 (some ⟨g1p0, 0, none⟩) n1p0 n1p0, circuitV a0p1 (some ⟨g1p1, 0, none⟩) n1p1 n1p1] w fun ee w' => ee = .returned (.tuple #[.bool r0, .bool r1]) ∧ Below w.heap.size w w') (hI : ∀ (g1p0 g1p1 : Nat) (w : World), Rd gateE w (some ⟨g1p0, 0, none⟩) xs1p0 → Rd gateE w (some ⟨g1p1, 0, none⟩) xs1p1 → Calls Try.prog 23 #[circuitV a0p0 (some ⟨g1p0, 0, none⟩) n1p0 n1p0, circuitV a0p1 (some ⟨g1p1, 0, none⟩) n1p1 n1p1] w fun ee w' => ee = .returned (.tuple #[.bool r0, .bool r1]) ∧ Below w.heap.size w w') (hA1p0 : Rd gateE w A1p0 xs1p0) (hn1p0 : xs1p0.length = n1p0) (hb1p0 : (n1p0 : Int) ≤ 1048576) (hA1p1 : Rd gateE w A1p1 xs1p1) (hn1p1 : xs1p1.length = n1p1) (hb1p1 : (n1p1 : Int) ≤ 1048576 - (n1p0 : Int)) :
    Calls Try.prog 4 #[(circuitV a0p0 A1p0 n1p0 c1p0), (circuitV a0p1 A1p1 n1p1 c1p1)] w fun ee w' => ee = .returned (.bool true) ∧ Below w.heap.size w w' := by
  have HAA1p0 := lay hA1p0
  have HN1p0 := lay hn1p0
  have HAA1p1 := lay hA1p1
  have HN1p1 := lay hn1p1
  have HS := lay hS
  have HI := lay hI
  have u0 : ¬ (1048576 - (n1p0 : Int) < 0) := by omega
  have v0 : 0 ≤ 1048576 - (n1p0 : Int) := by omega
  have s0 : (n1p0 : Int) ≤ 1048576 := by omega
  have t0 : 1048576 ≤ (1048576 : Int) := by omega
  have bn1p0 : n1p0 ≤ 1048576 := by omega
  have u1 : ¬ (1048576 - (n1p0 : Int) - (n1p1 : Int) < 0) := by omega
  have v1 : 0 ≤ 1048576 - (n1p0 : Int) - (n1p1 : Int) := by omega
  have s1 : (n1p1 : Int) ≤ 1048576 - (n1p0 : Int) := by omega
  have t1 : 1048576 - (n1p0 : Int) ≤ (1048576 : Int) := by omega
  have bn1p1 : n1p1 ≤ 1048576 := by omega
  have um0 : ¬ (1 + 3 * (n1p0 : Int) < 0) := by omega
  have vm0 : 0 ≤ 1 + 3 * (n1p0 : Int) := by omega
  have wm0 : 1 + 3 * (n1p0 : Int) ≤ 100000000 := by omega
  have um1 : ¬ (1 + 3 * (n1p0 : Int) + 3 * (n1p1 : Int) < 0) := by omega
  have vm1 : 0 ≤ 1 + 3 * (n1p0 : Int) + 3 * (n1p1 : Int) := by omega
  have wm1 : 1 + 3 * (n1p0 : Int) + 3 * (n1p1 : Int) ≤ 100000000 := by omega
  clear hS hI hA1p0 hn1p0 hA1p1 hn1p1
  go_enter Try.func4, Try.ntmps4
  go_wp2_with (fail)
  refine (szCircuit_t s0 t0).mono ?_
  rintro ee w1 ⟨rfl, hb1⟩
  have hL1 : Below w.heap.size w w1 := by (repeat' (first | (with_reducible exact Below.refl _ _) | (with_reducible assumption) | (with_reducible refine Below.alloc ?_ ?_ _) | (with_reducible refine Below.drew ?_) | (with_reducible refine bdN ?_ _) | (with_reducible refine Below.setCell ?_ ?_ _) | (with_reducible refine chn ?_ (by assumption) ?_) | omega | (simp; done) | (simp; omega)))
  have hz1 := hb1.size
  (try simp only [World.size_alloc] at hz1)
  have hB1 : Below w.heap.size w w1 := hL1
  have k1_0_0 : w1.cell? ⟨w.heap.size, 0, none⟩ = some (.int .i64 a0p0) := (hb1.cell (p := ⟨w.heap.size, 0, none⟩) (by show w.heap.size < _; (try simp only [World.size_alloc]); omega)).trans (by first | rfl | (simp; done) | (simp [*]; done))
  have k1_0_1 : w1.cell? ⟨w.heap.size, 1, none⟩ = some (.slice (A1p0) n1p0 c1p0) := (hb1.cell (p := ⟨w.heap.size, 1, none⟩) (by show w.heap.size < _; (try simp only [World.size_alloc]); omega)).trans (by first | rfl | (simp; done) | (simp [*]; done))
  have k1_1_0 : w1.cell? ⟨w.heap.size + 1, 0, none⟩ = some (.int .i64 a0p1) := (hb1.cell (p := ⟨w.heap.size + 1, 0, none⟩) (by show w.heap.size + 1 < _; (try simp only [World.size_alloc]); omega)).trans (by first | rfl | (simp; done) | (simp [*]; done))
  have k1_1_1 : w1.cell? ⟨w.heap.size + 1, 1, none⟩ = some (.slice (A1p1) n1p1 c1p1) := (hb1.cell (p := ⟨w.heap.size + 1, 1, none⟩) (by show w.heap.size + 1 < _; (try simp only [World.size_alloc]); omega)).trans (by first | rfl | (simp; done) | (simp [*]; done))
  have bl1_0 : w.heap.size < w1.heap.size := World.block_lt_of_cell? _ _ k1_0_0
  have bl1_1 : w.heap.size + 1 < w1.heap.size := World.block_lt_of_cell? _ _ k1_1_0
  clear hb1 hL1
  go_wp2_with (fail)
  refine (szCircuit_t s1 t1).mono ?_
  rintro ee w2 ⟨rfl, hb2⟩
  have hL2 : Below w1.heap.size w1 w2 := by (repeat' (first | (with_reducible exact Below.refl _ _) | (with_reducible assumption) | (with_reducible refine Below.alloc ?_ ?_ _) | (with_reducible refine Below.drew ?_) | (with_reducible refine bdN ?_ _) | (with_reducible refine Below.setCell ?_ ?_ _) | (with_reducible refine chn ?_ (by assumption) ?_) | omega | (simp; done) | (simp; omega)))
  have hz2 := hb2.size
  (try simp only [World.size_alloc] at hz2)
  have hB2 : Below w.heap.size w w2 := chn hB1 hL2 hB1.size
  have k2_0_0 : w2.cell? ⟨w.heap.size, 0, none⟩ = some (.int .i64 a0p0) := (hL2.cell (p := ⟨w.heap.size, 0, none⟩) (by show w.heap.size < w1.heap.size; omega)).trans k1_0_0
  have k2_0_1 : w2.cell? ⟨w.heap.size, 1, none⟩ = some (.slice (A1p0) n1p0 c1p0) := (hL2.cell (p := ⟨w.heap.size, 1, none⟩) (by show w.heap.size < w1.heap.size; omega)).trans k1_0_1
  have k2_1_0 : w2.cell? ⟨w.heap.size + 1, 0, none⟩ = some (.int .i64 a0p1) := (hL2.cell (p := ⟨w.heap.size + 1, 0, none⟩) (by show w.heap.size + 1 < w1.heap.size; omega)).trans k1_1_0
  have k2_1_1 : w2.cell? ⟨w.heap.size + 1, 1, none⟩ = some (.slice (A1p1) n1p1 c1p1) := (hL2.cell (p := ⟨w.heap.size + 1, 1, none⟩) (by show w.heap.size + 1 < w1.heap.size; omega)).trans k1_1_1
  have bl2_0 : w.heap.size < w2.heap.size := World.block_lt_of_cell? _ _ k2_0_0
  have bl2_1 : w.heap.size + 1 < w2.heap.size := World.block_lt_of_cell? _ _ k2_1_0
  clear hb2 hL2
  clear k1_0_0 k1_0_1 k1_1_0 k1_1_1
  go_wp2_with (fail)
  go_cut [6, 7] (fun s6 s7 wx => (s6 = .bool r0 ∧ s7 = .bool r1) ∧ (wx.cell? ⟨w.heap.size, 0, none⟩ = some (.int .i64 a0p0) ∧ wx.cell? ⟨w.heap.size, 1, none⟩ = some (.slice (A1p0) n1p0 c1p0) ∧ wx.cell? ⟨w.heap.size + 1, 0, none⟩ = some (.int .i64 a0p1) ∧ wx.cell? ⟨w.heap.size + 1, 1, none⟩ = some (.slice (A1p1) n1p1 c1p1) ∧ w2.heap.size ≤ wx.heap.size ∧ Below w.heap.size w wx))
  case first =>
    have yk2_0_0 : w2.drew.cell? ⟨w.heap.size, 0, none⟩ = some (.int .i64 a0p0) := k2_0_0
    have yk2_0_1 : w2.drew.cell? ⟨w.heap.size, 1, none⟩ = some (.slice (A1p0) n1p0 c1p0) := k2_0_1
    have yk2_1_0 : w2.drew.cell? ⟨w.heap.size + 1, 0, none⟩ = some (.int .i64 a0p1) := k2_1_0
    have yk2_1_1 : w2.drew.cell? ⟨w.heap.size + 1, 1, none⟩ = some (.slice (A1p1) n1p1 c1p1) := k2_1_1
    have hBz := hB2.size
    go_region_held3 (fun w' => w'.cell? ⟨w.heap.size, 0, none⟩ = some (.int .i64 a0p0) ∧ w'.cell? ⟨w.heap.size, 1, none⟩ = some (.slice (A1p0) n1p0 c1p0) ∧ w'.cell? ⟨w.heap.size + 1, 0, none⟩ = some (.int .i64 a0p1) ∧ w'.cell? ⟨w.heap.size + 1, 1, none⟩ = some (.slice (A1p1) n1p1 c1p1)) (first | (with_reducible exact ⟨yk2_0_0, yk2_0_1, yk2_1_0, yk2_1_1⟩) | (with_reducible exact ⟨k2_0_0, k2_0_1, k2_1_0, k2_1_1⟩) | (go_split_ands; with_reducible exact ⟨kcl hv0 (by with_reducible assumption), kcl hv0 (by with_reducible assumption), kcl hv0 (by with_reducible assumption), kcl hv0 (by with_reducible assumption)⟩) | (go_split_ands; with_reducible exact ⟨kcl hv1 (by with_reducible assumption), kcl hv1 (by with_reducible assumption), kcl hv1 (by with_reducible assumption), kcl hv1 (by with_reducible assumption)⟩) | (go_split_ands; with_reducible exact ⟨kcl hv2 (by with_reducible assumption), kcl hv2 (by with_reducible assumption), kcl hv2 (by with_reducible assumption), kcl hv2 (by with_reducible assumption)⟩)) (first | (go_at_call 22; ((with_reducible refine (toCircuit (xs1 := xs1p0) ?_ HN1p0.out bn1p0).mono ?_); (exact HAA1p0.out.mono (by (repeat' (first | (with_reducible exact Below.refl _ _) | (with_reducible assumption) | (with_reducible refine Below.alloc ?_ ?_ _) | (with_reducible refine Below.drew ?_) | (with_reducible refine bdN ?_ _) | (with_reducible refine Below.setCell ?_ ?_ _) | (with_reducible refine chn ?_ (by assumption) ?_) | omega | (simp; done) | (simp; omega))))); rintro ee v0 ⟨g0, rfl, hK0, hg0, hv0⟩; have hq0 := hv0.size; (try simp only [World.size_drew, World.size_alloc] at hq0))) | (go_at_call 22; ((with_reducible refine (toCircuit (xs1 := xs1p1) ?_ HN1p1.out bn1p1).mono ?_); (exact HAA1p1.out.mono (by (repeat' (first | (with_reducible exact Below.refl _ _) | (with_reducible assumption) | (with_reducible refine Below.alloc ?_ ?_ _) | (with_reducible refine Below.drew ?_) | (with_reducible refine bdN ?_ _) | (with_reducible refine Below.setCell ?_ ?_ _) | (with_reducible refine chn ?_ (by assumption) ?_) | omega | (simp; done) | (simp; omega))))); rintro ee v1 ⟨g1, rfl, hK1, hg1, hv1⟩; have hq1 := hv1.size; (try simp only [World.size_drew, World.size_alloc] at hq1))) | (go_at_call 21; ((with_reducible refine (HS.out _ _ _ ?_ ?_ ?_ ?_).mono ?_); (exact (by exact hK0.rd.mono (by (repeat' (first | (with_reducible exact Below.refl _ _) | (with_reducible assumption) | (with_reducible refine Below.alloc ?_ ?_ _) | (with_reducible refine Below.drew ?_) | (with_reducible refine bdN ?_ _) | (with_reducible refine Below.setCell ?_ ?_ _) | (with_reducible refine chn ?_ (by assumption) ?_) | omega | (simp; done) | (simp; omega)))))); (exact (by have h9 := hK0.lt; (try simp only [World.size_alloc, World.size_drew] at *); omega)); (exact (by exact hK1.rd.mono (by (repeat' (first | (with_reducible exact Below.refl _ _) | (with_reducible assumption) | (with_reducible refine Below.alloc ?_ ?_ _) | (with_reducible refine Below.drew ?_) | (with_reducible refine bdN ?_ _) | (with_reducible refine Below.setCell ?_ ?_ _) | (with_reducible refine chn ?_ (by assumption) ?_) | omega | (simp; done) | (simp; omega)))))); (exact (by have h9 := hK1.lt; (try simp only [World.size_alloc, World.size_drew] at *); omega)); rintro ee v2 ⟨rfl, hv2⟩; have hq2 := hv2.size; (try simp only [World.size_drew, World.size_alloc] at hq2))))
    all_goals (go_wp2_with fail; go_meet)
    all_goals go_split_ands
    all_goals (refine ⟨⟨rfl, rfl⟩, (by with_reducible assumption), (by with_reducible assumption), (by with_reducible assumption), (by with_reducible assumption), (by (try simp only [World.size_alloc, World.size_drew, World.size_setCell]); omega), (by (repeat' (first | (with_reducible exact Below.refl _ _) | (with_reducible assumption) | (with_reducible refine Below.alloc ?_ ?_ _) | (with_reducible refine Below.drew ?_) | (with_reducible refine bdN ?_ _) | (with_reducible refine Below.setCell ?_ ?_ _) | (with_reducible refine chn ?_ (by assumption) ?_) | omega | (simp; done) | (simp; omega))))⟩)
  case rest =>
    obtain ⟨w3, rfl⟩ : ∃ w3, w3 = wc := ⟨_, rfl⟩
    clear k2_0_0 k2_0_1 k2_1_0 k2_1_1
    obtain ⟨⟨rfl, rfl⟩, k3_0_0, k3_0_1, k3_1_0, k3_1_1, hz3, hB3⟩ := hcut
    have bl3_0 : w.heap.size < w3.heap.size := World.block_lt_of_cell? _ _ k3_0_0
    have bl3_1 : w.heap.size + 1 < w3.heap.size := World.block_lt_of_cell? _ _ k3_1_0
    go_wp2_with (fail)
    refine (toCircuit ?_ HN1p0.out bn1p0 ).mono ?_
    · exact HAA1p0.out.mono (by (repeat' (first | (with_reducible exact Below.refl _ _) | (with_reducible assumption) | (with_reducible refine Below.alloc ?_ ?_ _) | (with_reducible refine Below.drew ?_) | (with_reducible refine bdN ?_ _) | (with_reducible refine Below.setCell ?_ ?_ _) | (with_reducible refine chn ?_ (by assumption) ?_) | omega | (simp; done) | (simp; omega))))
    rintro ee w4 ⟨g4_1, rfl, hK4_1, hg4_1, hb4⟩
    have hL4 : Below w3.heap.size w3 w4 := by (repeat' (first | (with_reducible exact Below.refl _ _) | (with_reducible assumption) | (with_reducible refine Below.alloc ?_ ?_ _) | (with_reducible refine Below.drew ?_) | (with_reducible refine bdN ?_ _) | (with_reducible refine Below.setCell ?_ ?_ _) | (with_reducible refine chn ?_ (by assumption) ?_) | omega | (simp; done) | (simp; omega)))
    have hz4 := hb4.size
    (try simp only [World.size_alloc] at hz4)
    have hB4 : Below w.heap.size w w4 := chn hB3 hL4 hB3.size
    have k4_0_0 : w4.cell? ⟨w.heap.size, 0, none⟩ = some (.int .i64 a0p0) := (hL4.cell (p := ⟨w.heap.size, 0, none⟩) (by show w.heap.size < w3.heap.size; omega)).trans k3_0_0
    have k4_0_1 : w4.cell? ⟨w.heap.size, 1, none⟩ = some (.slice (A1p0) n1p0 c1p0) := (hL4.cell (p := ⟨w.heap.size, 1, none⟩) (by show w.heap.size < w3.heap.size; omega)).trans k3_0_1
    have k4_1_0 : w4.cell? ⟨w.heap.size + 1, 0, none⟩ = some (.int .i64 a0p1) := (hL4.cell (p := ⟨w.heap.size + 1, 0, none⟩) (by show w.heap.size + 1 < w3.heap.size; omega)).trans k3_1_0
    have k4_1_1 : w4.cell? ⟨w.heap.size + 1, 1, none⟩ = some (.slice (A1p1) n1p1 c1p1) := (hL4.cell (p := ⟨w.heap.size + 1, 1, none⟩) (by show w.heap.size + 1 < w3.heap.size; omega)).trans k3_1_1
    have bl4_0 : w.heap.size < w4.heap.size := World.block_lt_of_cell? _ _ k4_0_0
    have bl4_1 : w.heap.size + 1 < w4.heap.size := World.block_lt_of_cell? _ _ k4_1_0
    clear hb4 hL4
    clear k3_0_0 k3_0_1 k3_1_0 k3_1_1
    (try simp only [World.size_alloc] at hg4_1)
    have HX04 : Hid (Ow gateE w4 (w3.heap.size) 150 (some ⟨g4_1, 0, none⟩) xs1p0) := hK4_1.ow (by omega)
    clear hK4_1
    have hr_X0 := HX04.out.row
    go_wp2_with (fail)
    refine (toCircuit ?_ HN1p1.out bn1p1 ).mono ?_
    · exact HAA1p1.out.mono (by (repeat' (first | (with_reducible exact Below.refl _ _) | (with_reducible assumption) | (with_reducible refine Below.alloc ?_ ?_ _) | (with_reducible refine Below.drew ?_) | (with_reducible refine bdN ?_ _) | (with_reducible refine Below.setCell ?_ ?_ _) | (with_reducible refine chn ?_ (by assumption) ?_) | omega | (simp; done) | (simp; omega))))
    rintro ee w5 ⟨g5_1, rfl, hK5_1, hg5_1, hb5⟩
    have hL5 : Below w4.heap.size w4 w5 := by (repeat' (first | (with_reducible exact Below.refl _ _) | (with_reducible assumption) | (with_reducible refine Below.alloc ?_ ?_ _) | (with_reducible refine Below.drew ?_) | (with_reducible refine bdN ?_ _) | (with_reducible refine Below.setCell ?_ ?_ _) | (with_reducible refine chn ?_ (by assumption) ?_) | omega | (simp; done) | (simp; omega)))
    have hz5 := hb5.size
    (try simp only [World.size_alloc] at hz5)
    have hB5 : Below w.heap.size w w5 := chn hB4 hL5 hB4.size
    have k5_0_0 : w5.cell? ⟨w.heap.size, 0, none⟩ = some (.int .i64 a0p0) := (hL5.cell (p := ⟨w.heap.size, 0, none⟩) (by show w.heap.size < w4.heap.size; omega)).trans k4_0_0
    have k5_0_1 : w5.cell? ⟨w.heap.size, 1, none⟩ = some (.slice (A1p0) n1p0 c1p0) := (hL5.cell (p := ⟨w.heap.size, 1, none⟩) (by show w.heap.size < w4.heap.size; omega)).trans k4_0_1
    have k5_1_0 : w5.cell? ⟨w.heap.size + 1, 0, none⟩ = some (.int .i64 a0p1) := (hL5.cell (p := ⟨w.heap.size + 1, 0, none⟩) (by show w.heap.size + 1 < w4.heap.size; omega)).trans k4_1_0
    have k5_1_1 : w5.cell? ⟨w.heap.size + 1, 1, none⟩ = some (.slice (A1p1) n1p1 c1p1) := (hL5.cell (p := ⟨w.heap.size + 1, 1, none⟩) (by show w.heap.size + 1 < w4.heap.size; omega)).trans k4_1_1
    have k5_2_0 : w5.cell? ⟨w4.heap.size, 0, none⟩ = some (.int .i64 a0p0) := (hb5.cell (p := ⟨w4.heap.size, 0, none⟩) (by show w4.heap.size < _; (try simp only [World.size_alloc]); omega)).trans (by first | rfl | (simp; done) | (simp [*]; done))
    have k5_2_1 : w5.cell? ⟨w4.heap.size, 1, none⟩ = some (.slice (some ⟨g4_1, 0, none⟩) n1p0 n1p0) := (hb5.cell (p := ⟨w4.heap.size, 1, none⟩) (by show w4.heap.size < _; (try simp only [World.size_alloc]); omega)).trans (by first | rfl | (simp; done) | (simp [*]; done))
    have bl5_0 : w.heap.size < w5.heap.size := World.block_lt_of_cell? _ _ k5_0_0
    have bl5_1 : w.heap.size + 1 < w5.heap.size := World.block_lt_of_cell? _ _ k5_1_0
    have bl5_2 : w4.heap.size < w5.heap.size := World.block_lt_of_cell? _ _ k5_2_0
    have HX05 := lay (HX04.out.mono hL5)
    clear hb5 hL5
    clear k4_0_0 k4_0_1 k4_1_0 k4_1_1 HX04
    (try simp only [World.size_alloc] at hg5_1)
    have HX15 : Hid (Ow gateE w5 (w4.heap.size + 1) 150 (some ⟨g5_1, 0, none⟩) xs1p1) := hK5_1.ow (by omega)
    clear hK5_1
    have hr_X1 := HX15.out.row
    go_wp2_with (fail)
    refine (HI.out _ _ _ ?_ ?_).mono ?_
    · exact HX05.out.rd.mono (by (repeat' (first | (with_reducible exact Below.refl _ _) | (with_reducible assumption) | (with_reducible refine Below.alloc ?_ ?_ _) | (with_reducible refine Below.drew ?_) | (with_reducible refine bdN ?_ _) | (with_reducible refine Below.setCell ?_ ?_ _) | (with_reducible refine chn ?_ (by assumption) ?_) | omega | (simp; done) | (simp; omega))))
    · exact HX15.out.rd.mono (by (repeat' (first | (with_reducible exact Below.refl _ _) | (with_reducible assumption) | (with_reducible refine Below.alloc ?_ ?_ _) | (with_reducible refine Below.drew ?_) | (with_reducible refine bdN ?_ _) | (with_reducible refine Below.setCell ?_ ?_ _) | (with_reducible refine chn ?_ (by assumption) ?_) | omega | (simp; done) | (simp; omega))))
    rintro ee w6 ⟨rfl, hb6⟩
    have hL6 : Below w5.heap.size w5 w6 := by (repeat' (first | (with_reducible exact Below.refl _ _) | (with_reducible assumption) | (with_reducible refine Below.alloc ?_ ?_ _) | (with_reducible refine Below.drew ?_) | (with_reducible refine bdN ?_ _) | (with_reducible refine Below.setCell ?_ ?_ _) | (with_reducible refine chn ?_ (by assumption) ?_) | omega | (simp; done) | (simp; omega)))
    have hz6 := hb6.size
    (try simp only [World.size_alloc] at hz6)
    have hB6 : Below w.heap.size w w6 := chn hB5 hL6 hB5.size
    have k6_0_0 : w6.cell? ⟨w.heap.size, 0, none⟩ = some (.int .i64 a0p0) := (hL6.cell (p := ⟨w.heap.size, 0, none⟩) (by show w.heap.size < w5.heap.size; omega)).trans k5_0_0
    have k6_0_1 : w6.cell? ⟨w.heap.size, 1, none⟩ = some (.slice (A1p0) n1p0 c1p0) := (hL6.cell (p := ⟨w.heap.size, 1, none⟩) (by show w.heap.size < w5.heap.size; omega)).trans k5_0_1
    have k6_1_0 : w6.cell? ⟨w.heap.size + 1, 0, none⟩ = some (.int .i64 a0p1) := (hL6.cell (p := ⟨w.heap.size + 1, 0, none⟩) (by show w.heap.size + 1 < w5.heap.size; omega)).trans k5_1_0
    have k6_1_1 : w6.cell? ⟨w.heap.size + 1, 1, none⟩ = some (.slice (A1p1) n1p1 c1p1) := (hL6.cell (p := ⟨w.heap.size + 1, 1, none⟩) (by show w.heap.size + 1 < w5.heap.size; omega)).trans k5_1_1
    have k6_2_0 : w6.cell? ⟨w4.heap.size, 0, none⟩ = some (.int .i64 a0p0) := (hL6.cell (p := ⟨w4.heap.size, 0, none⟩) (by show w4.heap.size < w5.heap.size; omega)).trans k5_2_0
    have k6_2_1 : w6.cell? ⟨w4.heap.size, 1, none⟩ = some (.slice (some ⟨g4_1, 0, none⟩) n1p0 n1p0) := (hL6.cell (p := ⟨w4.heap.size, 1, none⟩) (by show w4.heap.size < w5.heap.size; omega)).trans k5_2_1
    have k6_3_0 : w6.cell? ⟨w5.heap.size, 0, none⟩ = some (.int .i64 a0p1) := (hb6.cell (p := ⟨w5.heap.size, 0, none⟩) (by show w5.heap.size < _; (try simp only [World.size_alloc]); omega)).trans (by first | rfl | (simp; done) | (simp [*]; done))
    have k6_3_1 : w6.cell? ⟨w5.heap.size, 1, none⟩ = some (.slice (some ⟨g5_1, 0, none⟩) n1p1 n1p1) := (hb6.cell (p := ⟨w5.heap.size, 1, none⟩) (by show w5.heap.size < _; (try simp only [World.size_alloc]); omega)).trans (by first | rfl | (simp; done) | (simp [*]; done))
    have bl6_0 : w.heap.size < w6.heap.size := World.block_lt_of_cell? _ _ k6_0_0
    have bl6_1 : w.heap.size + 1 < w6.heap.size := World.block_lt_of_cell? _ _ k6_1_0
    have bl6_2 : w4.heap.size < w6.heap.size := World.block_lt_of_cell? _ _ k6_2_0
    have bl6_3 : w5.heap.size < w6.heap.size := World.block_lt_of_cell? _ _ k6_3_0
    have HX06 := lay (HX05.out.mono hL6)
    have HX16 := lay (HX15.out.mono hL6)
    clear hb6 hL6
    clear k5_0_0 k5_0_1 k5_1_0 k5_1_1 k5_2_0 k5_2_1 HX05 HX15
    go_wp2_with (fail)
    go_cut [52] (fun s52 wx => (s52 = .bool false) ∧ (wx.cell? ⟨w.heap.size, 0, none⟩ = some (.int .i64 a0p0) ∧ wx.cell? ⟨w.heap.size, 1, none⟩ = some (.slice (A1p0) n1p0 c1p0) ∧ wx.cell? ⟨w.heap.size + 1, 0, none⟩ = some (.int .i64 a0p1) ∧ wx.cell? ⟨w.heap.size + 1, 1, none⟩ = some (.slice (A1p1) n1p1 c1p1) ∧ wx.cell? ⟨w4.heap.size, 0, none⟩ = some (.int .i64 a0p0) ∧ wx.cell? ⟨w4.heap.size, 1, none⟩ = some (.slice (some ⟨g4_1, 0, none⟩) n1p0 n1p0) ∧ wx.cell? ⟨w5.heap.size, 0, none⟩ = some (.int .i64 a0p1) ∧ wx.cell? ⟨w5.heap.size, 1, none⟩ = some (.slice (some ⟨g5_1, 0, none⟩) n1p1 n1p1) ∧ Hid (Ow gateE wx (w3.heap.size) 150 (some ⟨g4_1, 0, none⟩) xs1p0) ∧ Hid (Ow gateE wx (w4.heap.size + 1) 150 (some ⟨g5_1, 0, none⟩) xs1p1) ∧ w6.heap.size ≤ wx.heap.size ∧ Below w.heap.size w wx))
    case first =>
      have yk6_0_0 : w6.drew.cell? ⟨w.heap.size, 0, none⟩ = some (.int .i64 a0p0) := k6_0_0
      have yk6_0_1 : w6.drew.cell? ⟨w.heap.size, 1, none⟩ = some (.slice (A1p0) n1p0 c1p0) := k6_0_1
      have yk6_1_0 : w6.drew.cell? ⟨w.heap.size + 1, 0, none⟩ = some (.int .i64 a0p1) := k6_1_0
      have yk6_1_1 : w6.drew.cell? ⟨w.heap.size + 1, 1, none⟩ = some (.slice (A1p1) n1p1 c1p1) := k6_1_1
      have yk6_2_0 : w6.drew.cell? ⟨w4.heap.size, 0, none⟩ = some (.int .i64 a0p0) := k6_2_0
      have yk6_2_1 : w6.drew.cell? ⟨w4.heap.size, 1, none⟩ = some (.slice (some ⟨g4_1, 0, none⟩) n1p0 n1p0) := k6_2_1
      have yk6_3_0 : w6.drew.cell? ⟨w5.heap.size, 0, none⟩ = some (.int .i64 a0p1) := k6_3_0
      have yk6_3_1 : w6.drew.cell? ⟨w5.heap.size, 1, none⟩ = some (.slice (some ⟨g5_1, 0, none⟩) n1p1 n1p1) := k6_3_1
      have hBz := hB6.size
      go_region_held3 (fun w' => w'.cell? ⟨w.heap.size, 0, none⟩ = some (.int .i64 a0p0) ∧ w'.cell? ⟨w.heap.size, 1, none⟩ = some (.slice (A1p0) n1p0 c1p0) ∧ w'.cell? ⟨w.heap.size + 1, 0, none⟩ = some (.int .i64 a0p1) ∧ w'.cell? ⟨w.heap.size + 1, 1, none⟩ = some (.slice (A1p1) n1p1 c1p1) ∧ w'.cell? ⟨w4.heap.size, 0, none⟩ = some (.int .i64 a0p0) ∧ w'.cell? ⟨w4.heap.size, 1, none⟩ = some (.slice (some ⟨g4_1, 0, none⟩) n1p0 n1p0) ∧ w'.cell? ⟨w5.heap.size, 0, none⟩ = some (.int .i64 a0p1) ∧ w'.cell? ⟨w5.heap.size, 1, none⟩ = some (.slice (some ⟨g5_1, 0, none⟩) n1p1 n1p1)) (first | (with_reducible exact ⟨yk6_0_0, yk6_0_1, yk6_1_0, yk6_1_1, yk6_2_0, yk6_2_1, yk6_3_0, yk6_3_1⟩) | (with_reducible exact ⟨k6_0_0, k6_0_1, k6_1_0, k6_1_1, k6_2_0, k6_2_1, k6_3_0, k6_3_1⟩) | (go_split_ands; with_reducible exact ⟨kcl hv0 (by with_reducible assumption), kcl hv0 (by with_reducible assumption), kcl hv0 (by with_reducible assumption), kcl hv0 (by with_reducible assumption), kcl hv0 (by with_reducible assumption), kcl hv0 (by with_reducible assumption), kcl hv0 (by with_reducible assumption), kcl hv0 (by with_reducible assumption)⟩) | (go_split_ands; with_reducible exact ⟨kcl hv1 (by with_reducible assumption), kcl hv1 (by with_reducible assumption), kcl hv1 (by with_reducible assumption), kcl hv1 (by with_reducible assumption), kcl hv1 (by with_reducible assumption), kcl hv1 (by with_reducible assumption), kcl hv1 (by with_reducible assumption), kcl hv1 (by with_reducible assumption)⟩)) (first | (go_at_call 22; ((with_reducible refine (toCircuit (xs1 := xs1p0) ?_ HN1p0.out bn1p0).mono ?_); (exact HAA1p0.out.mono (by (repeat' (first | (with_reducible exact Below.refl _ _) | (with_reducible assumption) | (with_reducible refine Below.alloc ?_ ?_ _) | (with_reducible refine Below.drew ?_) | (with_reducible refine bdN ?_ _) | (with_reducible refine Below.setCell ?_ ?_ _) | (with_reducible refine chn ?_ (by assumption) ?_) | omega | (simp; done) | (simp; omega))))); rintro ee v0 ⟨g9, rfl, hK9, hg9, hv0⟩; have hq0 := hv0.size; (try simp only [World.size_drew, World.size_alloc] at hq0))) | (go_at_call 24; ((with_reducible refine (eqCircuit (xs1 := xs1p0) ?_ ?_ HN1p0.out bn1p0).mono ?_); (exact HX06.out.rd.mono (by (repeat' (first | (with_reducible exact Below.refl _ _) | (with_reducible assumption) | (with_reducible refine Below.alloc ?_ ?_ _) | (with_reducible refine Below.drew ?_) | (with_reducible refine bdN ?_ _) | (with_reducible refine Below.setCell ?_ ?_ _) | (with_reducible refine chn ?_ (by assumption) ?_) | omega | (simp; done) | (simp; omega))))); (exact hK9.rd); rintro ee v1 ⟨rfl, hv1⟩; have hq1 := hv1.size; (try simp only [World.size_drew, World.size_alloc] at hq1))))
      all_goals (go_wp2_with fail; go_meet)
      all_goals go_split_ands
      all_goals (refine ⟨rfl, (by with_reducible assumption), (by with_reducible assumption), (by with_reducible assumption), (by with_reducible assumption), (by with_reducible assumption), (by with_reducible assumption), (by with_reducible assumption), (by with_reducible assumption), (by exact HX06.out.mono (by (repeat' (first | (with_reducible exact Below.refl _ _) | (with_reducible assumption) | (with_reducible refine Below.alloc ?_ ?_ _) | (with_reducible refine Below.drew ?_) | (with_reducible refine bdN ?_ _) | (with_reducible refine Below.setCell ?_ ?_ _) | (with_reducible refine chn ?_ (by assumption) ?_) | omega | (simp; done) | (simp; omega))))), (by exact HX16.out.mono (by (repeat' (first | (with_reducible exact Below.refl _ _) | (with_reducible assumption) | (with_reducible refine Below.alloc ?_ ?_ _) | (with_reducible refine Below.drew ?_) | (with_reducible refine bdN ?_ _) | (with_reducible refine Below.setCell ?_ ?_ _) | (with_reducible refine chn ?_ (by assumption) ?_) | omega | (simp; done) | (simp; omega))))), (by (try simp only [World.size_alloc, World.size_drew, World.size_setCell]); omega), (by (repeat' (first | (with_reducible exact Below.refl _ _) | (with_reducible assumption) | (with_reducible refine Below.alloc ?_ ?_ _) | (with_reducible refine Below.drew ?_) | (with_reducible refine bdN ?_ _) | (with_reducible refine Below.setCell ?_ ?_ _) | (with_reducible refine chn ?_ (by assumption) ?_) | omega | (simp; done) | (simp; omega))))⟩)
    case rest =>
      obtain ⟨w7, rfl⟩ : ∃ w7, w7 = wc := ⟨_, rfl⟩
      clear k6_0_0 k6_0_1 k6_1_0 k6_1_1 k6_2_0 k6_2_1 k6_3_0 k6_3_1 HX06 HX16
      obtain ⟨rfl, k7_0_0, k7_0_1, k7_1_0, k7_1_1, k7_2_0, k7_2_1, k7_3_0, k7_3_1, HX07, HX17, hz7, hB7⟩ := hcut
      have bl7_0 : w.heap.size < w7.heap.size := World.block_lt_of_cell? _ _ k7_0_0
      have bl7_1 : w.heap.size + 1 < w7.heap.size := World.block_lt_of_cell? _ _ k7_1_0
      have bl7_2 : w4.heap.size < w7.heap.size := World.block_lt_of_cell? _ _ k7_2_0
      have bl7_3 : w5.heap.size < w7.heap.size := World.block_lt_of_cell? _ _ k7_3_0
      go_wp2_with (fail)
      go_cut [57] (fun s57 wx => (s57 = .bool false) ∧ (wx.cell? ⟨w.heap.size, 0, none⟩ = some (.int .i64 a0p0) ∧ wx.cell? ⟨w.heap.size, 1, none⟩ = some (.slice (A1p0) n1p0 c1p0) ∧ wx.cell? ⟨w.heap.size + 1, 0, none⟩ = some (.int .i64 a0p1) ∧ wx.cell? ⟨w.heap.size + 1, 1, none⟩ = some (.slice (A1p1) n1p1 c1p1) ∧ wx.cell? ⟨w4.heap.size, 0, none⟩ = some (.int .i64 a0p0) ∧ wx.cell? ⟨w4.heap.size, 1, none⟩ = some (.slice (some ⟨g4_1, 0, none⟩) n1p0 n1p0) ∧ wx.cell? ⟨w5.heap.size, 0, none⟩ = some (.int .i64 a0p1) ∧ wx.cell? ⟨w5.heap.size, 1, none⟩ = some (.slice (some ⟨g5_1, 0, none⟩) n1p1 n1p1) ∧ Hid (Ow gateE wx (w3.heap.size) 150 (some ⟨g4_1, 0, none⟩) xs1p0) ∧ Hid (Ow gateE wx (w4.heap.size + 1) 150 (some ⟨g5_1, 0, none⟩) xs1p1) ∧ w7.heap.size ≤ wx.heap.size ∧ Below w.heap.size w wx))
      case first =>
        have yk7_0_0 : w7.drew.cell? ⟨w.heap.size, 0, none⟩ = some (.int .i64 a0p0) := k7_0_0
        have yk7_0_1 : w7.drew.cell? ⟨w.heap.size, 1, none⟩ = some (.slice (A1p0) n1p0 c1p0) := k7_0_1
        have yk7_1_0 : w7.drew.cell? ⟨w.heap.size + 1, 0, none⟩ = some (.int .i64 a0p1) := k7_1_0
        have yk7_1_1 : w7.drew.cell? ⟨w.heap.size + 1, 1, none⟩ = some (.slice (A1p1) n1p1 c1p1) := k7_1_1
        have yk7_2_0 : w7.drew.cell? ⟨w4.heap.size, 0, none⟩ = some (.int .i64 a0p0) := k7_2_0
        have yk7_2_1 : w7.drew.cell? ⟨w4.heap.size, 1, none⟩ = some (.slice (some ⟨g4_1, 0, none⟩) n1p0 n1p0) := k7_2_1
        have yk7_3_0 : w7.drew.cell? ⟨w5.heap.size, 0, none⟩ = some (.int .i64 a0p1) := k7_3_0
        have yk7_3_1 : w7.drew.cell? ⟨w5.heap.size, 1, none⟩ = some (.slice (some ⟨g5_1, 0, none⟩) n1p1 n1p1) := k7_3_1
        have hBz := hB7.size
        go_region_held3 (fun w' => w'.cell? ⟨w.heap.size, 0, none⟩ = some (.int .i64 a0p0) ∧ w'.cell? ⟨w.heap.size, 1, none⟩ = some (.slice (A1p0) n1p0 c1p0) ∧ w'.cell? ⟨w.heap.size + 1, 0, none⟩ = some (.int .i64 a0p1) ∧ w'.cell? ⟨w.heap.size + 1, 1, none⟩ = some (.slice (A1p1) n1p1 c1p1) ∧ w'.cell? ⟨w4.heap.size, 0, none⟩ = some (.int .i64 a0p0) ∧ w'.cell? ⟨w4.heap.size, 1, none⟩ = some (.slice (some ⟨g4_1, 0, none⟩) n1p0 n1p0) ∧ w'.cell? ⟨w5.heap.size, 0, none⟩ = some (.int .i64 a0p1) ∧ w'.cell? ⟨w5.heap.size, 1, none⟩ = some (.slice (some ⟨g5_1, 0, none⟩) n1p1 n1p1)) (first | (with_reducible exact ⟨yk7_0_0, yk7_0_1, yk7_1_0, yk7_1_1, yk7_2_0, yk7_2_1, yk7_3_0, yk7_3_1⟩) | (with_reducible exact ⟨k7_0_0, k7_0_1, k7_1_0, k7_1_1, k7_2_0, k7_2_1, k7_3_0, k7_3_1⟩) | (go_split_ands; with_reducible exact ⟨kcl hv0 (by with_reducible assumption), kcl hv0 (by with_reducible assumption), kcl hv0 (by with_reducible assumption), kcl hv0 (by with_reducible assumption), kcl hv0 (by with_reducible assumption), kcl hv0 (by with_reducible assumption), kcl hv0 (by with_reducible assumption), kcl hv0 (by with_reducible assumption)⟩) | (go_split_ands; with_reducible exact ⟨kcl hv1 (by with_reducible assumption), kcl hv1 (by with_reducible assumption), kcl hv1 (by with_reducible assumption), kcl hv1 (by with_reducible assumption), kcl hv1 (by with_reducible assumption), kcl hv1 (by with_reducible assumption), kcl hv1 (by with_reducible assumption), kcl hv1 (by with_reducible assumption)⟩)) (first | (go_at_call 22; ((with_reducible refine (toCircuit (xs1 := xs1p1) ?_ HN1p1.out bn1p1).mono ?_); (exact HAA1p1.out.mono (by (repeat' (first | (with_reducible exact Below.refl _ _) | (with_reducible assumption) | (with_reducible refine Below.alloc ?_ ?_ _) | (with_reducible refine Below.drew ?_) | (with_reducible refine bdN ?_ _) | (with_reducible refine Below.setCell ?_ ?_ _) | (with_reducible refine chn ?_ (by assumption) ?_) | omega | (simp; done) | (simp; omega))))); rintro ee v0 ⟨g9, rfl, hK9, hg9, hv0⟩; have hq0 := hv0.size; (try simp only [World.size_drew, World.size_alloc] at hq0))) | (go_at_call 24; ((with_reducible refine (eqCircuit (xs1 := xs1p1) ?_ ?_ HN1p1.out bn1p1).mono ?_); (exact HX17.out.rd.mono (by (repeat' (first | (with_reducible exact Below.refl _ _) | (with_reducible assumption) | (with_reducible refine Below.alloc ?_ ?_ _) | (with_reducible refine Below.drew ?_) | (with_reducible refine bdN ?_ _) | (with_reducible refine Below.setCell ?_ ?_ _) | (with_reducible refine chn ?_ (by assumption) ?_) | omega | (simp; done) | (simp; omega))))); (exact hK9.rd); rintro ee v1 ⟨rfl, hv1⟩; have hq1 := hv1.size; (try simp only [World.size_drew, World.size_alloc] at hq1))))
        all_goals (go_wp2_with fail; go_meet)
        all_goals go_split_ands
        all_goals (refine ⟨rfl, (by with_reducible assumption), (by with_reducible assumption), (by with_reducible assumption), (by with_reducible assumption), (by with_reducible assumption), (by with_reducible assumption), (by with_reducible assumption), (by with_reducible assumption), (by exact HX07.out.mono (by (repeat' (first | (with_reducible exact Below.refl _ _) | (with_reducible assumption) | (with_reducible refine Below.alloc ?_ ?_ _) | (with_reducible refine Below.drew ?_) | (with_reducible refine bdN ?_ _) | (with_reducible refine Below.setCell ?_ ?_ _) | (with_reducible refine chn ?_ (by assumption) ?_) | omega | (simp; done) | (simp; omega))))), (by exact HX17.out.mono (by (repeat' (first | (with_reducible exact Below.refl _ _) | (with_reducible assumption) | (with_reducible refine Below.alloc ?_ ?_ _) | (with_reducible refine Below.drew ?_) | (with_reducible refine bdN ?_ _) | (with_reducible refine Below.setCell ?_ ?_ _) | (with_reducible refine chn ?_ (by assumption) ?_) | omega | (simp; done) | (simp; omega))))), (by (try simp only [World.size_alloc, World.size_drew, World.size_setCell]); omega), (by (repeat' (first | (with_reducible exact Below.refl _ _) | (with_reducible assumption) | (with_reducible refine Below.alloc ?_ ?_ _) | (with_reducible refine Below.drew ?_) | (with_reducible refine bdN ?_ _) | (with_reducible refine Below.setCell ?_ ?_ _) | (with_reducible refine chn ?_ (by assumption) ?_) | omega | (simp; done) | (simp; omega))))⟩)
      case rest =>
        obtain ⟨w8, rfl⟩ : ∃ w8, w8 = wc := ⟨_, rfl⟩
        clear k7_0_0 k7_0_1 k7_1_0 k7_1_1 k7_2_0 k7_2_1 k7_3_0 k7_3_1 HX07 HX17
        obtain ⟨rfl, k8_0_0, k8_0_1, k8_1_0, k8_1_1, k8_2_0, k8_2_1, k8_3_0, k8_3_1, HX08, HX18, hz8, hB8⟩ := hcut
        have bl8_0 : w.heap.size < w8.heap.size := World.block_lt_of_cell? _ _ k8_0_0
        have bl8_1 : w.heap.size + 1 < w8.heap.size := World.block_lt_of_cell? _ _ k8_1_0
        have bl8_2 : w4.heap.size < w8.heap.size := World.block_lt_of_cell? _ _ k8_2_0
        have bl8_3 : w5.heap.size < w8.heap.size := World.block_lt_of_cell? _ _ k8_3_0
        go_wp2_with (fail)
        go_ret
        exact ⟨rfl, hB8⟩

theorem fnExactSameOperator_walk {a0p0 : Int} {A1p0 : Option Addr} {n1p0 c1p0 : Nat} {xs1p0 : List GateV} {a0p1 : Int} {A1p1 : Option Addr} {n1p1 c1p1 : Nat} {xs1p1 : List GateV} {w : World} (hA1p0 : Rd gateE w A1p0 xs1p0) (hn1p0 : xs1p0.length = n1p0) (hm1p0 : n1p0 ≤ maxLen) (hA1p1 : Rd gateE w A1p1 xs1p1) (hn1p1 : xs1p1.length = n1p1) (hm1p1 : n1p1 ≤ maxLen) :
    Calls Try.prog 4 #[(circuitV a0p0 A1p0 n1p0 c1p0), (circuitV a0p1 A1p1 n1p1 c1p1)] w fun ee w' => ee = .returned (.bool true) ∧ Below w.heap.size w w' := by
  by_cases hb1p0 : (n1p0 : Int) ≤ 1048576
  · skip
    by_cases hb1p1 : (n1p1 : Int) ≤ 1048576 - (n1p0 : Int)
    · skip
      obtain ⟨r0, r1, hS, hI⟩ := soC (a0 := a0p0) (b0 := a0p1) hn1p0 hm1p0 hn1p1 hm1p1
      exact lwSameOperator (r0 := r0) (r1 := r1) (fun g h w hA lA hB lB => hS _ _ _ _ w hA hB (fun a ha => by cases ha; exact lA) (fun a ha => by cases ha; exact lB)) (fun g h w hA hB => hI _ _ _ _ w hA hB)  hA1p0 hn1p0 hb1p0 hA1p1 hn1p1 hb1p1
    · exact bigSameOperator1 hb1p0 (by omega) hm1p1
  · exact bigSameOperator0  (by omega) hm1p0

end Go.Proofs.Ytofclfgaekjonaa.C4
