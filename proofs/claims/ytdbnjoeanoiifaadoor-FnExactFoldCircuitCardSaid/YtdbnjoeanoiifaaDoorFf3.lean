/- FoldCircuit: both sides. -/
import Derived.Test.YtdbnjoeanoiifaaDoorFf2
namespace Go.Proofs.YtdbnjoeanoiifaaDoor
open Go.RowKit
set_option linter.unusedVariables false
set_option linter.unusedSimpArgs false
attribute [local irreducible] World.setCell

set_option maxRecDepth 100000 in
set_option maxHeartbeats 2000000 in
theorem foi_f {a0 : Int} {A1 : Option Addr} {n1 c1 : Nat} {xs : List GateV} {w : World} (hA : Rd gateE w A1 xs) (hn : xs.length = n1) (hm : n1 ≤ maxLen) (hok : okC a0 n1 xs = false) :
    Calls Tryd.prog 24 #[circuitV a0 A1 n1 c1] w fun ee w' => ee = .returned (.tuple #[.string ⟨#[]⟩, .bool false]) ∧ Below w.heap.size w w' := by
  have HA := lay hA
  have HN := lay hn
  have HO := lay hok
  clear hA hn hok
  go_enter Tryd.func24, Tryd.ntmps24
  go_wp2_with (fail)
  refine (vci (xs := xs) HO.out ?_ HN.out hm).mono ?_
  · exact HA.out.mono (by (repeat' (first | (with_reducible exact Below.refl _ _) | (with_reducible assumption) | (with_reducible refine Below.alloc ?_ ?_ _) | (with_reducible refine Below.drew ?_) | (with_reducible refine bdN ?_ _) | (with_reducible refine Below.setCell ?_ ?_ _) | (with_reducible refine chn ?_ (by assumption) ?_) | omega | (simp; done) | (simp; omega))))
  rintro ee w1 ⟨rfl, hb1⟩
  go_wp2_with (fail)
  refine bodyPost_ret (v := .tuple #[.string ⟨#[]⟩, .bool false]) (by first | (simp [results, Tryd.results24, go_sem, *]; done) | (simp (disch := (first | omega | (simp; done) | (simp; omega))) [results, Tryd.results24, go_sem, *]; done) | (simp only [results, Tryd.results24]; go_simp; done)) rfl ⟨rfl, ?_⟩
  (repeat' (first | (with_reducible exact Below.refl _ _) | (with_reducible assumption) | (with_reducible refine Below.alloc ?_ ?_ _) | (with_reducible refine Below.drew ?_) | (with_reducible refine bdN ?_ _) | (with_reducible refine Below.setCell ?_ ?_ _) | (with_reducible refine chn ?_ (by assumption) ?_) | omega | (simp; done) | (simp; omega)))
set_option maxRecDepth 100000 in
set_option maxHeartbeats 2000000 in
theorem fos_f {a0 : Int} {A1 : Option Addr} {n1 c1 : Nat} {xs : List GateV} {w : World} (hA : Rd gateE w A1 xs) (hn : xs.length = n1) (hm : n1 ≤ maxLen) (hok : okC a0 n1 xs = false) :
    Calls Tryd.prog 23 #[circuitV a0 A1 n1 c1] w fun ee w' => ee = .returned (.tuple #[.string ⟨#[]⟩, .bool false]) ∧ Below w.heap.size w w' := by
  have HA := lay hA
  have HN := lay hn
  have HO := lay hok
  clear hA hn hok
  go_enter Tryd.func23, Tryd.ntmps23
  go_wp2_with (fail)
  refine (vcs (xs := xs) HO.out ?_ HN.out hm).mono ?_
  · exact HA.out.mono (by (repeat' (first | (with_reducible exact Below.refl _ _) | (with_reducible assumption) | (with_reducible refine Below.alloc ?_ ?_ _) | (with_reducible refine Below.drew ?_) | (with_reducible refine bdN ?_ _) | (with_reducible refine Below.setCell ?_ ?_ _) | (with_reducible refine chn ?_ (by assumption) ?_) | omega | (simp; done) | (simp; omega))))
  rintro ee w1 ⟨rfl, hb1⟩
  go_wp2_with (fail)
  refine bodyPost_ret (v := .tuple #[.string ⟨#[]⟩, .bool false]) (by first | (simp [results, Tryd.results23, go_sem, *]; done) | (simp (disch := (first | omega | (simp; done) | (simp; omega))) [results, Tryd.results23, go_sem, *]; done) | (simp only [results, Tryd.results23]; go_simp; done)) rfl ⟨rfl, ?_⟩
  (repeat' (first | (with_reducible exact Below.refl _ _) | (with_reducible assumption) | (with_reducible refine Below.alloc ?_ ?_ _) | (with_reducible refine Below.drew ?_) | (with_reducible refine bdN ?_ _) | (with_reducible refine Below.setCell ?_ ?_ _) | (with_reducible refine chn ?_ (by assumption) ?_) | omega | (simp; done) | (simp; omega)))
/-- both answer the same -/
theorem fo_both {a0 : Int} {n1 : Nat} {xs : List GateV} {w : World} (hG : Nms w) (hn : xs.length = n1) (hm : n1 ≤ maxLen) : ∃ (T : ByteArray) (ok : Bool),
    (∀ (g : Nat) (W : World), Rd gateE W (some ⟨g, 0, none⟩) xs → Calls Tryd.prog 23 #[circuitV a0 (some ⟨g, 0, none⟩) n1 n1] W fun ee w' => ee = .returned (.tuple #[.string T, .bool ok]) ∧ Below W.heap.size W w') ∧
    (∀ (g : Nat) (W : World), Below w.heap.size w W → Rd gateE W (some ⟨g, 0, none⟩) xs → Calls Tryd.prog 24 #[circuitV a0 (some ⟨g, 0, none⟩) n1 n1] W fun ee w' => ee = .returned (.tuple #[.string T, .bool ok]) ∧ Below W.heap.size W w') := by
  cases ho : okC a0 n1 xs
  · exact ⟨⟨#[]⟩, false, fun g W hA => fos_f hA hn hm ho, fun g W _ hA => foi_f hA hn hm ho⟩
  · obtain ⟨h1, h5, h4, hg⟩ := okC_iff.1 ho
    obtain ⟨n, rfl⟩ := Int.eq_ofNat_of_zero_le (show 0 ≤ a0 by omega)
    have hg5 : ∀ (i : Nat) (g : GateV), xs[i]? = some g → gB 5 g = true := fun i g hi => gB_five (hg i g hi) h5
    by_cases h8 : 8000 < (fld n1 (qln n) xs).size
    · exact ⟨⟨#[]⟩, false, fun g W hA => fos_t (by omega) hA hn h4 (Nat.le_refl _) ho hg5 rfl (fun _ => ⟨rfl, rfl⟩) (fun h => absurd h8 h), fun g W hb hA => foi_t (hG.below hb) (by omega) hA hn h4 (Nat.le_refl _) ho hg5 rfl (fun _ => ⟨rfl, rfl⟩) (fun h => absurd h8 h)⟩
    · exact ⟨fld n1 (qln n) xs, true, fun g W hA => fos_t (by omega) hA hn h4 (Nat.le_refl _) ho hg5 rfl (fun h => absurd h h8) (fun _ => ⟨rfl, rfl⟩), fun g W hb hA => foi_t (hG.below hb) (by omega) hA hn h4 (Nat.le_refl _) ho hg5 rfl (fun h => absurd h h8) (fun _ => ⟨rfl, rfl⟩)⟩
end Go.Proofs.YtdbnjoeanoiifaaDoor
