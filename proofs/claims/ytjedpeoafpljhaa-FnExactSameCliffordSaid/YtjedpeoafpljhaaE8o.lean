/- The tableau of a valid gate, and of a circuit, as plain functions. -/
import Derived.Test.YtjedpeoafpljhaaE8l
import Derived.Test.YtjedpeoafpljhaaE8m
import Derived.Test.YtjedpeoafpljhaaPgi11
import Derived.Test.YtjedpeoafpljhaaE8h
import Derived.Test.YtjedpeoafpljhaaE8n
namespace Go.Proofs.Ytjedpeoafpljhaa.C4
open Go.RowKit
set_option linter.unusedVariables false
set_option linter.unusedSimpArgs false
attribute [local irreducible] World.setCell

open GM
/-- a valid gate that is no T: numbers -/
def okK (n k a b : Nat) : Prop := (k = 1 ∨ k = 2 ∨ k = 3 ∨ k = 4 ∨ k = 5 ∨ k = 6 ∨ k = 9 ∨ k = 10 ∨ k = 11 ∨ k = 12) ∧ a < n ∧ b < n ∧ (9 ≤ k → k ≤ 11 → a ≠ b)
theorem okK_of {n : Nat} {g : GateV} (q1 : 1 ≤ n) (h : gB (n : Int) g = true) (h2 : isT g = false) : ∃ k a b : Nat, g = ⟨(k : Int), (a : Int), (b : Int)⟩ ∧ okK n k a b := by
  obtain ⟨f0, f1, f2⟩ := g
  have ht : ¬ (7 ≤ f0 ∧ f0 ≤ 8) := fun hh => by
    have : inB f0 7 8 = true := inB_t hh.1 hh.2
    unfold isT at h2
    rw [this] at h2; cases h2
  cases k8 : inB f0 1 8
  · cases k11 : inB f0 9 11
    · rw [gB_12 k8 k11] at h
      simp only [Bool.and_eq_true, decide_eq_true_eq] at h
      obtain ⟨⟨e0, e1⟩, e2⟩ := h
      subst e0 e1 e2
      exact ⟨12, 0, 0, rfl, by omega, by omega, by omega, fun _ hh => by omega⟩
    · rw [gB_11 k11] at h
      simp only [Bool.and_eq_true, decide_eq_true_eq] at h
      obtain ⟨⟨e1, e2⟩, e3⟩ := h
      obtain ⟨l1, u1⟩ := inB_iff.1 e1
      obtain ⟨l2, u2⟩ := inB_iff.1 e2
      obtain ⟨l0, u0⟩ := inB_iff.1 k11
      obtain ⟨k, rfl⟩ := Int.eq_ofNat_of_zero_le (show 0 ≤ f0 by omega)
      obtain ⟨a, rfl⟩ := Int.eq_ofNat_of_zero_le l1
      obtain ⟨b, rfl⟩ := Int.eq_ofNat_of_zero_le l2
      exact ⟨k, a, b, rfl, by omega, by omega, by omega, fun _ _ e => e3 (by rw [e])⟩
  · rw [gB_8 k8] at h
    simp only [Bool.and_eq_true, decide_eq_true_eq] at h
    obtain ⟨e1, e2⟩ := h
    obtain ⟨l1, u1⟩ := inB_iff.1 e1
    obtain ⟨l0, u0⟩ := inB_iff.1 k8
    obtain ⟨k, rfl⟩ := Int.eq_ofNat_of_zero_le (show 0 ≤ f0 by omega)
    obtain ⟨a, rfl⟩ := Int.eq_ofNat_of_zero_le l1
    (try dsimp only at e2)
    subst e2
    exact ⟨k, a, 0, rfl, by omega, by omega, by omega, fun hh => by omega⟩
theorem gtok_all : (allN 6 fun n => allN 13 fun k => allN 5 fun a => allN 5 fun b => allN 5 fun q => decide (a < n → b < n → q < n → pB (n : Int) (gtX k a b q) = true ∧ pB (n : Int) (gtZ k a b q) = true)) = true := by decide +kernel
theorem gtok {n k a b q : Nat} (q5 : n ≤ 5) (h : okK n k a b) (hq : q < n) : pB (n : Int) (gtX k a b q) = true ∧ pB (n : Int) (gtZ k a b q) = true := by
  obtain ⟨hk, ha, hb, -⟩ := h
  exact of_decide_eq_true (allN_get (allN_get (allN_get (allN_get (allN_get gtok_all (show n < 6 by omega)) (show k < 13 by omega)) (show a < 5 by omega)) (show b < 5 by omega)) (show q < 5 by omega)) ha hb hq
theorem okL_gX {n k a b : Nat} (q5 : n ≤ 5) (h : okK n k a b) : okL n (tab n (gtX k a b)) := okL_tab (fun q hq => (gtok q5 h hq).1)
theorem okL_gZ {n k a b : Nat} (q5 : n ≤ 5) (h : okK n k a b) : okL n (tab n (gtZ k a b)) := okL_tab (fun q hq => (gtok q5 h hq).2)
/-- the lists of a gate's tableau -/
def gLX (n : Nat) (g : GateV) : List PauliV := tab n (gtX g.f0.toNat g.f1.toNat g.f2.toNat)
def gLZ (n : Nat) (g : GateV) : List PauliV := tab n (gtZ g.f0.toNat g.f1.toNat g.f2.toNat)
/-- the tableau behind the first j gates -/
def tauT (n : Nat) (gs : List GateV) : Nat → List PauliV × List PauliV
  | 0 => (tab n genX, tab n genZ)
  | j + 1 => (tab n (thF n (gLX n (gs.getD j GateV.z)) (gLZ n (gs.getD j GateV.z)) (tauT n gs j).1), tab n (thF n (gLX n (gs.getD j GateV.z)) (gLZ n (gs.getD j GateV.z)) (tauT n gs j).2))
theorem tauT_s {n j : Nat} {gs : List GateV} {g : GateV} (h : gs[j]? = some g) : tauT n gs (j + 1) = (tab n (thF n (gLX n g) (gLZ n g) (tauT n gs j).1), tab n (thF n (gLX n g) (gLZ n g) (tauT n gs j).2)) := by
  have e : gs.getD j GateV.z = g := by rw [List.getD_eq_getElem?_getD, h]; rfl
  show (tab n (thF n (gLX n (gs.getD j GateV.z)) _ _), _) = _
  rw [e]
/-- valid gates without T -/
def okG9 (n : Nat) (gs : List GateV) : Prop := ∀ (i : Nat) (g : GateV), gs[i]? = some g → ∃ k a b : Nat, g = ⟨(k : Int), (a : Int), (b : Int)⟩ ∧ okK n k a b
theorem okL_g {n : Nat} {g : GateV} (q5 : n ≤ 5) (h : ∃ k a b : Nat, g = ⟨(k : Int), (a : Int), (b : Int)⟩ ∧ okK n k a b) : okL n (gLX n g) ∧ okL n (gLZ n g) := by
  obtain ⟨k, a, b, rfl, hk⟩ := h
  exact ⟨okL_gX q5 hk, okL_gZ q5 hk⟩
theorem tauT_ok {n : Nat} {gs : List GateV} (q1 : 1 ≤ n) (q5 : n ≤ 5) (h : okG9 n gs) (j : Nat) (hj : j ≤ gs.length) : okL n (tauT n gs j).1 ∧ okL n (tauT n gs j).2 := by
  induction j with
  | zero => exact ⟨okL_genX q1 q5, okL_genZ q1 q5⟩
  | succ j ih =>
    obtain ⟨i1, i2⟩ := ih (by omega)
    obtain ⟨g, hg⟩ : ∃ g, gs[j]? = some g := ⟨_, List.getElem?_eq_getElem (by omega)⟩
    obtain ⟨g1, g2⟩ := okL_g q5 (h j g hg)
    rw [tauT_s hg]
    exact ⟨okL_th q1 q5 g1 g2 i1, okL_th q1 q5 g1 g2 i2⟩
theorem okC_G {n : Nat} {m : Nat} {gs : List GateV} (h : okC (n : Int) m gs = true) (h2 : noT gs) : 1 ≤ n ∧ n ≤ 5 ∧ m ≤ 400 ∧ okG9 n gs := by
  obtain ⟨l1, l2, l3, l4⟩ := okC_iff.1 h
  have q1 : 1 ≤ n := by omega
  exact ⟨q1, by omega, l3, fun i g hg => okK_of q1 (l4 i g hg) (h2 i g hg)⟩
set_option maxRecDepth 100000 in
set_option maxHeartbeats 2000000 in
theorem gti_g {n : Nat} {g : GateV} (q1 : 1 ≤ n) (q5 : n ≤ 5) (h : ∃ k a b : Nat, g = ⟨(k : Int), (a : Int), (b : Int)⟩ ∧ okK n k a b) (w : World) :
    Calls Try.prog 90 #[.int .i64 (n : Int), g.v] w fun ee w' => ∃ gx gz : Nat, ee = .returned (tableauV n (some ⟨gx, 0, none⟩) n n (some ⟨gz, 0, none⟩) n n) ∧ Bk pauliE w' gx 43 (gLX n g) ∧ Bk pauliE w' gz 43 (gLZ n g) ∧ w.heap.size ≤ gx ∧ w.heap.size ≤ gz ∧ gx ≠ gz ∧ Below w.heap.size w w' := by
  obtain ⟨k, a, b, rfl, hk, ha, hb, hab⟩ := h
  rcases hk with rfl | rfl | rfl | rfl | rfl | rfl | rfl | rfl | rfl | rfl
  · exact gti_1 q1 q5 ha hb w
  · exact gti_2 q1 q5 ha hb w
  · exact gti_3 q1 q5 ha hb w
  · exact gti_4 q1 q5 ha hb w
  · exact gti_5 q1 q5 ha hb w
  · exact gti_6 q1 q5 ha hb w
  · exact gti_9 q1 q5 ha hb (hab (by decide) (by decide)) w
  · exact gti_10 q1 q5 ha hb (hab (by decide) (by decide)) w
  · exact gti_11 q1 q5 ha hb (hab (by decide) (by decide)) w
  · exact gti_12 q1 q5 ha hb w
set_option maxRecDepth 100000 in
set_option maxHeartbeats 2000000 in
theorem gts_g {n : Nat} {g : GateV} (q1 : 1 ≤ n) (q5 : n ≤ 5) (h : ∃ k a b : Nat, g = ⟨(k : Int), (a : Int), (b : Int)⟩ ∧ okK n k a b) (w : World) :
    Calls Try.prog 139 #[.int .i64 (n : Int), g.v] w fun ee w' => ∃ gx cx gz cz : Nat, ee = .returned (tableauV (n : Int) (some ⟨gx, 0, none⟩) n cx (some ⟨gz, 0, none⟩) n cz) ∧ Bs pauliE w' gx 43 (gLX n g) ∧ Bs pauliE w' gz 43 (gLZ n g) ∧ Below w.heap.size w w' := by
  obtain ⟨k, a, b, rfl, hk, ha, hb, hab⟩ := h
  exact gts q1 q5 hk ha hb hab w
end Go.Proofs.Ytjedpeoafpljhaa.C4
