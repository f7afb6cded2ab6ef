/- FormatCircuit: the program and its model. -/
import Derived.Test.YtdbnjoeanoiifaaDoorFd6
import Derived.Deep.RegionHeld3
import Derived.Deep.DeepCutAuto
namespace Go.Proofs.YtdbnjoeanoiifaaDoor
open Go.RowKit
set_option linter.unusedVariables false
set_option linter.unusedSimpArgs false
attribute [local irreducible] World.setCell

set_option maxRecDepth 100000 in
set_option maxHeartbeats 2000000 in
theorem fci_f {a0 : Int} {A1 : Option Addr} {n1 c1 : Nat} {xs : List GateV} {w : World} (hA : Rd gateE w A1 xs) (hn : xs.length = n1) (hm : n1 ≤ maxLen) (hok : okC a0 n1 xs = false) :
    Calls Tryd.prog 21 #[circuitV a0 A1 n1 c1] w fun ee w' => ee = .returned (.tuple #[.string ⟨#[]⟩, .bool false]) ∧ Below w.heap.size w w' := by
  have HA := lay hA
  have HN := lay hn
  have HO := lay hok
  clear hA hn hok
  go_enter Tryd.func21, Tryd.ntmps21
  go_wp2_with (fail)
  refine (vci (xs := xs) HO.out ?_ HN.out hm).mono ?_
  · exact HA.out.mono (by (repeat' (first | (with_reducible exact Below.refl _ _) | (with_reducible assumption) | (with_reducible refine Below.alloc ?_ ?_ _) | (with_reducible refine Below.drew ?_) | (with_reducible refine bdN ?_ _) | (with_reducible refine Below.setCell ?_ ?_ _) | (with_reducible refine chn ?_ (by assumption) ?_) | omega | (simp; done) | (simp; omega))))
  rintro ee w1 ⟨rfl, hb1⟩
  go_wp2_with (fail)
  refine bodyPost_ret (v := .tuple #[.string ⟨#[]⟩, .bool false]) (by first | (simp [results, Tryd.results21, go_sem, *]; done) | (simp (disch := (first | omega | (simp; done) | (simp; omega))) [results, Tryd.results21, go_sem, *]; done) | (simp only [results, Tryd.results21]; go_simp; done)) rfl ⟨rfl, ?_⟩
  (repeat' (first | (with_reducible exact Below.refl _ _) | (with_reducible assumption) | (with_reducible refine Below.alloc ?_ ?_ _) | (with_reducible refine Below.drew ?_) | (with_reducible refine bdN ?_ _) | (with_reducible refine Below.setCell ?_ ?_ _) | (with_reducible refine chn ?_ (by assumption) ?_) | omega | (simp; done) | (simp; omega)))
set_option maxRecDepth 100000 in
set_option maxHeartbeats 2000000 in
theorem fcs_f {a0 : Int} {A1 : Option Addr} {n1 c1 : Nat} {xs : List GateV} {w : World} (hA : Rd gateE w A1 xs) (hn : xs.length = n1) (hm : n1 ≤ maxLen) (hok : okC a0 n1 xs = false) :
    Calls Tryd.prog 19 #[circuitV a0 A1 n1 c1] w fun ee w' => ee = .returned (.tuple #[.string ⟨#[]⟩, .bool false]) ∧ Below w.heap.size w w' := by
  have HA := lay hA
  have HN := lay hn
  have HO := lay hok
  clear hA hn hok
  go_enter Tryd.func19, Tryd.ntmps19
  go_wp2_with (fail)
  refine (vcs (xs := xs) HO.out ?_ HN.out hm).mono ?_
  · exact HA.out.mono (by (repeat' (first | (with_reducible exact Below.refl _ _) | (with_reducible assumption) | (with_reducible refine Below.alloc ?_ ?_ _) | (with_reducible refine Below.drew ?_) | (with_reducible refine bdN ?_ _) | (with_reducible refine Below.setCell ?_ ?_ _) | (with_reducible refine chn ?_ (by assumption) ?_) | omega | (simp; done) | (simp; omega))))
  rintro ee w1 ⟨rfl, hb1⟩
  go_wp2_with (fail)
  refine bodyPost_ret (v := .tuple #[.string ⟨#[]⟩, .bool false]) (by first | (simp [results, Tryd.results19, go_sem, *]; done) | (simp (disch := (first | omega | (simp; done) | (simp; omega))) [results, Tryd.results19, go_sem, *]; done) | (simp only [results, Tryd.results19]; go_simp; done)) rfl ⟨rfl, ?_⟩
  (repeat' (first | (with_reducible exact Below.refl _ _) | (with_reducible assumption) | (with_reducible refine Below.alloc ?_ ?_ _) | (with_reducible refine Below.drew ?_) | (with_reducible refine bdN ?_ _) | (with_reducible refine Below.setCell ?_ ?_ _) | (with_reducible refine chn ?_ (by assumption) ?_) | omega | (simp; done) | (simp; omega)))
set_option maxRecDepth 100000 in
set_option maxHeartbeats 2000000 in
theorem fcs_t {n : Nat} {A1 : Option Addr} {n1 c1 : Nat} {xs : List GateV} {w : World} (hn5 : n ≤ 5) (hA : Rd gateE w A1 xs) (hn : xs.length = n1) (hl : n1 ≤ 400) (hok : okC (n : Int) n1 xs = true) (hg : ∀ (i : Nat) (g : GateV), xs[i]? = some g → gB 5 g = true) :
    Calls Tryd.prog 19 #[circuitV (n : Int) A1 n1 c1] w fun ee w' => ee = .returned (.tuple #[.string (lns (qln n) xs), .bool true]) ∧ Below w.heap.size w w' := by
  have hm : n1 ≤ maxLen := by unfold maxLen; omega
  have HA := lay hA
  have HN := lay hn
  have HO := lay hok
  have HG := lay hg
  clear hA hn hok hg
  go_enter Tryd.func19, Tryd.ntmps19
  go_wp2_with (fail)
  refine (vcs (xs := xs) HO.out ?_ HN.out hm).mono ?_
  · exact HA.out.mono (by (repeat' (first | (with_reducible exact Below.refl _ _) | (with_reducible assumption) | (with_reducible refine Below.alloc ?_ ?_ _) | (with_reducible refine Below.drew ?_) | (with_reducible refine bdN ?_ _) | (with_reducible refine Below.setCell ?_ ?_ _) | (with_reducible refine chn ?_ (by assumption) ?_) | omega | (simp; done) | (simp; omega))))
  rintro ee w1 ⟨rfl, hb1⟩
  have X1 := lay (Bb.mono (b := w.heap.size) (t := 46) (cs := #[.int .i64 (n : Int), .slice A1 n1 c1]) (Bb.new rfl) hb1)
  have hs1 := hb1.size
  simp only [World.size_alloc] at hs1
  have B1 := lay (chn ((Below.refl w.heap.size w).alloc (Nat.le_refl _) _) hb1 (by simp))
  have HA1 := lay (HA.out.mono B1.out)
  clear hb1
  have c0 := X1.out.c 0 rfl
  have c1' := X1.out.c 1 rfl
  have lx := X1.out.lt
  go_wp2_with (fail)
  refine (fsl hn5 HA1.out HN.out hl HG.out).mono ?_
  rintro ee w2 ⟨rfl, hb2⟩
  have B2 := chn B1.out hb2 B1.out.size
  clear hb2 c0 c1' lx
  go_wp2_with (fail)
  refine bodyPost_ret (v := .tuple #[.string (lns (qln n) xs), .bool true]) (by first | (simp [results, Tryd.results19, go_sem, *]; done) | (simp (disch := (first | omega | (simp; done) | (simp; omega))) [results, Tryd.results19, go_sem, *]; done) | (simp only [results, Tryd.results19]; go_simp; done)) rfl ⟨rfl, B2⟩
set_option maxRecDepth 100000 in
set_option maxHeartbeats 4000000 in
theorem fci_t {n : Nat} {A1 : Option Addr} {n1 c1 : Nat} {xs : List GateV} {w : World} (hN : Nms w) (hn5 : n ≤ 5) (hA : Rd gateE w A1 xs) (hn : xs.length = n1) (hl : n1 ≤ 400) (hok : okC (n : Int) n1 xs = true) (hg : ∀ (i : Nat) (g : GateV), xs[i]? = some g → gB 5 g = true) :
    Calls Tryd.prog 21 #[circuitV (n : Int) A1 n1 c1] w fun ee w' => ee = .returned (.tuple #[.string (lns (qln n) xs), .bool true]) ∧ Below w.heap.size w w' := by
  have hm : n1 ≤ maxLen := by unfold maxLen; omega
  have HA := lay hA
  have HN := lay hn
  have HO := lay hok
  have HG := lay hg
  have HM := lay hN
  have k3 := fun w => kg3 (P := Tryd.prog) (n := n) (xs := xs) (by rw [hn]; exact hl) w
  clear hA hn hok hg hN
  go_enter Tryd.func21, Tryd.ntmps21
  go_wp2_with (fail)
  refine (vci (xs := xs) HO.out ?_ HN.out hm).mono ?_
  · exact HA.out.mono (by (repeat' (first | (with_reducible exact Below.refl _ _) | (with_reducible assumption) | (with_reducible refine Below.alloc ?_ ?_ _) | (with_reducible refine Below.drew ?_) | (with_reducible refine bdN ?_ _) | (with_reducible refine Below.setCell ?_ ?_ _) | (with_reducible refine chn ?_ (by assumption) ?_) | omega | (simp; done) | (simp; omega))))
  rintro ee w1 ⟨rfl, hb1⟩
  have X1 := lay (Bb.mono (b := w.heap.size) (t := 46) (cs := #[.int .i64 (n : Int), .slice A1 n1 c1]) (Bb.new rfl) hb1)
  have hs1 := hb1.size
  simp only [World.size_alloc] at hs1
  have B1 := lay (chn ((Below.refl w.heap.size w).alloc (Nat.le_refl _) _) hb1 (by simp))
  clear hb1
  have c0 := X1.out.c 0 rfl
  have c1' := X1.out.c 1 rfl
  have lx := X1.out.lt
  go_wp2_with (fail)
  go_cut [2, 3] (fun s2 s3 wx => s2 = .string (lns (qln n) xs) ∧ s3 = .bool true ∧ Below w.heap.size w wx)
  case first =>
    have hB1 := B1.out
    have hB1s := hB1.size
    have y0 : w1.drew.cell? ⟨w.heap.size, 0, none⟩ = some (.int .i64 (n : Int)) := c0
    have y1 : w1.drew.cell? ⟨w.heap.size, 1, none⟩ = some (.slice A1 n1 c1) := c1'
    go_region_held3 (fun w' => w'.cell? ⟨w.heap.size, 0, none⟩ = some (.int .i64 (n : Int)) ∧ w'.cell? ⟨w.heap.size, 1, none⟩ = some (.slice A1 n1 c1)) (first | (with_reducible exact ⟨y0, y1⟩) | (with_reducible exact ⟨c0, c1'⟩) | (go_split_ands; with_reducible exact ⟨kcl hv0 (by with_reducible assumption), kcl hv0 (by with_reducible assumption)⟩) | (go_split_ands; with_reducible exact ⟨kcl hv1 (by with_reducible assumption), kcl hv1 (by with_reducible assumption)⟩)) (first | (go_at_call 49; ((with_reducible refine (qli (n := n) (by omega) _).mono ?_); rintro ee v0 ⟨rfl, hv0⟩; have hq0 := hv0.size; (try simp only [World.size_drew, World.size_alloc] at hq0))) | (go_at_call 50; ((with_reducible refine (gli (xs := xs) ?_ ?_ HN.out hl HG.out).mono ?_); (exact HM.out.below (by (repeat' (first | (with_reducible exact Below.refl _ _) | (with_reducible assumption) | (with_reducible refine Below.alloc ?_ ?_ _) | (with_reducible refine Below.drew ?_) | (with_reducible refine bdN ?_ _) | (with_reducible refine Below.setCell ?_ ?_ _) | (with_reducible refine chn ?_ (by assumption) ?_) | omega | (simp; done) | (simp; omega))))); (exact HA.out.mono (by (repeat' (first | (with_reducible exact Below.refl _ _) | (with_reducible assumption) | (with_reducible refine Below.alloc ?_ ?_ _) | (with_reducible refine Below.drew ?_) | (with_reducible refine bdN ?_ _) | (with_reducible refine Below.setCell ?_ ?_ _) | (with_reducible refine chn ?_ (by assumption) ?_) | omega | (simp; done) | (simp; omega))))); rintro ee v1 ⟨rfl, hv1⟩; have hq1 := hv1.size; (try simp only [World.size_drew, World.size_alloc] at hq1))))
    all_goals (go_wp2_with fail; go_meet)
    all_goals go_split_ands
    all_goals (refine ⟨rfl, rfl, ?_⟩)
    all_goals (repeat' (first | (with_reducible exact Below.refl _ _) | (with_reducible assumption) | (with_reducible refine Below.alloc ?_ ?_ _) | (with_reducible refine Below.drew ?_) | (with_reducible refine bdN ?_ _) | (with_reducible refine Below.setCell ?_ ?_ _) | (with_reducible refine chn ?_ (by assumption) ?_) | omega | (simp; done) | (simp; omega)))
  case rest =>
    obtain ⟨w2, rfl⟩ : ∃ w2, w2 = wc := ⟨_, rfl⟩
    obtain ⟨rfl, rfl, hB2⟩ := hcut
    go_wp2_with (fail)
    refine bodyPost_ret (v := .tuple #[.string (lns (qln n) xs), .bool true]) (by first | (simp [results, Tryd.results21, go_sem, *]; done) | (simp (disch := (first | omega | (simp; done) | (simp; omega))) [results, Tryd.results21, go_sem, *]; done) | (simp only [results, Tryd.results21]; go_simp; done)) rfl ⟨rfl, hB2⟩
/-- both answer the same -/
theorem fc_both {a0 : Int} {n1 : Nat} {xs : List GateV} {w : World} (hG : Nms w) (hn : xs.length = n1) (hm : n1 ≤ maxLen) : ∃ (T : ByteArray) (ok : Bool),
    (∀ (g : Nat) (W : World), Rd gateE W (some ⟨g, 0, none⟩) xs → Calls Tryd.prog 19 #[circuitV a0 (some ⟨g, 0, none⟩) n1 n1] W fun ee w' => ee = .returned (.tuple #[.string T, .bool ok]) ∧ Below W.heap.size W w') ∧
    (∀ (g : Nat) (W : World), Below w.heap.size w W → Rd gateE W (some ⟨g, 0, none⟩) xs → Calls Tryd.prog 21 #[circuitV a0 (some ⟨g, 0, none⟩) n1 n1] W fun ee w' => ee = .returned (.tuple #[.string T, .bool ok]) ∧ Below W.heap.size W w') := by
  cases ho : okC a0 n1 xs
  · exact ⟨⟨#[]⟩, false, fun g W hA => fcs_f hA hn hm ho, fun g W _ hA => fci_f hA hn hm ho⟩
  · obtain ⟨h1, h5, h4, hg⟩ := okC_iff.1 ho
    obtain ⟨n, rfl⟩ := Int.eq_ofNat_of_zero_le (show 0 ≤ a0 by omega)
    have hg5 : ∀ (i : Nat) (g : GateV), xs[i]? = some g → gB 5 g = true := fun i g hi => gB_five (hg i g hi) h5
    exact ⟨lns (qln n) xs, true, fun g W hA => fcs_t (by omega) hA hn h4 ho hg5, fun g W hb hA => fci_t (hG.below hb) (by omega) hA hn h4 ho hg5⟩
end Go.Proofs.YtdbnjoeanoiifaaDoor
