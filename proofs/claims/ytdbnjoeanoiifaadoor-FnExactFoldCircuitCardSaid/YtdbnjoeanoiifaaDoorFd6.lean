/- FormatCircuit: the program. -/
import Derived.Test.YtdbnjoeanoiifaaDoorFd5
namespace Go.Proofs.YtdbnjoeanoiifaaDoor
open Go.RowKit
set_option linter.unusedVariables false
set_option linter.unusedSimpArgs false
attribute [local irreducible] World.setCell

/-- the gates' names lie where the program keeps them -/
def Nms (w : World) : Prop := ∀ i, i ≤ 12 → w.cell? ⟨0, i, none⟩ = some (.string (gnm i))
theorem Nms.lt {w : World} (h : Nms w) : 0 < w.heap.size := World.block_lt_of_cell? _ _ (h 0 (by omega))
theorem Nms.below {w W : World} (h : Nms w) (hb : Below w.heap.size w W) : Nms W := fun i hi => (hb.cell (p := ⟨0, i, none⟩) h.lt).trans (h i hi)
theorem Nms.al {w : World} (h : Nms w) (o : Obj) : Nms (w.alloc o) := h.below ((Below.refl _ _).alloc (Nat.le_refl _) _)
/-- the bytes of a text -/
def bys (s : ByteArray) : List Value := Lib.byteCells s.data.toList
theorem bys_app (s t : ByteArray) : bys s ++ Lib.strCells t = bys (s ++ t) := by
  unfold bys
  rw [Lib.strCells_eq, ← Lib.byteCells_append, ByteArray.data_append, Array.toList_append]
theorem bys_len (s : ByteArray) : (bys s).length = s.size := by
  unfold bys
  rw [Lib.byteCells_length, Array.length_toList]
  rfl
set_option maxRecDepth 100000 in
set_option maxHeartbeats 4000000 in
theorem gli {A1 : Option Addr} {n1 c1 : Nat} {xs : List GateV} {w : World} (hG : Nms w) (hA : Rd gateE w A1 xs) (hn : xs.length = n1) (hl : n1 ≤ 400) (hok : ∀ (i : Nat) (g : GateV), xs[i]? = some g → gB 5 g = true) :
    Calls Tryd.prog 50 #[.slice A1 n1 c1] w fun ee w' => ee = .returned (.string (lns ⟨#[]⟩ xs)) ∧ Below w.heap.size w w' := by
  have HA := lay hA
  have HN := lay hn
  have HO := lay hok
  have HG := lay hG
  clear hA hn hok hG
  have IB := lay (Lib.fresh_isBuilder 91 5 w)
  have B0 := lay ((Below.refl w.heap.size w).alloc (Nat.le_refl _) (.cells #[.pointer none, .slice none 0 0] 91))
  go_enter Tryd.func50, Tryd.ntmps50
  go_wp2_with (fail)
  go_loopg [10] n1 (fun k s10 wr => ∃ j : Nat, j + k = n1 ∧ s10 = .int .i64 (j : Int) ∧ Hid (Lib.IsBuilder 91 5 w.heap.size w.heap.size (bys (lns ⟨#[]⟩ (xs.take j))) wr) ∧ Hid (Below w.heap.size w wr))
  case atStart => exact ⟨0, by omega, rfl, IB, B0⟩
  case round =>
    clear IB B0
    obtain ⟨j, hj, rfl, IB, HB⟩ := hrel
    cases gk with
    | zero =>
      obtain rfl : j = n1 := by omega
      have e : lns ⟨#[]⟩ (xs.take j) = lns ⟨#[]⟩ xs := by rw [List.take_of_length_le (by rw [HN.out]; exact Nat.le_refl _)]
      rw [e] at IB
      go_wp2_with (go_at_call 59; refine (Tryd.Builder_String_any w.heap.size w.heap.size (lns ⟨#[]⟩ xs).data.toList _ IB.out HB.out.size).mono ?_)
      rintro ee w4 ⟨rfl, hb4⟩
      have hb5 := HB.out.trans hb4
      have e2 : (⟨(lns ⟨#[]⟩ xs).data.toList.toArray⟩ : ByteArray) = lns ⟨#[]⟩ xs := by simp
      rw [e2]
      go_wp2_with (fail)
      go_ret
      exact ⟨rfl, hb5⟩
    | succ m =>
      have hlt : j < n1 := by omega
      have j1 : (j : Int) < (n1 : Int) := by omega
      obtain ⟨x, hx⟩ : ∃ x, xs[j]? = some x := ⟨_, List.getElem?_eq_getElem (by rw [HN.out]; exact hlt)⟩
      obtain ⟨g, o, rfl, hgw, hC⟩ := HA.out.atGate hx
      have hB := HB.out
      have hBz := hB.size
      obtain ⟨q0, q1, q2⟩ : wr.cell? ⟨g, o + j * 3, none⟩ = some (.int .i64 x.f0) ∧ wr.cell? ⟨g, o + j * 3 + 1, none⟩ = some (.int .i64 x.f1) ∧ wr.cell? ⟨g, o + j * 3 + 2, none⟩ = some (.int .i64 x.f2) := ⟨(World.cell?_of_block (hB.block g hgw)).trans hC.1, (World.cell?_of_block (hB.block g hgw)).trans hC.2.1, (World.cell?_of_block (hB.block g hgw)).trans hC.2.2⟩
      have HX := lay (gtx_both (HO.out j x hx)).2
      have k3 := fun w => kg1 (P := Tryd.prog) x w
      have HS := lay (lns_snoc ⟨#[]⟩ (xs.take j) x)
      have HT := lay (take_snoc hx)
      have HZ : Hid ((lns ⟨#[]⟩ (xs.take j)).size ≤ 3600) := by
        show _ ≤ _
        have h1 := lns_size ⟨#[]⟩ (xs.take j)
        have h2 : (⟨#[]⟩ : ByteArray).size = 0 := rfl
        rw [List.length_take] at h1
        omega
      clear hC hx hB
      go_wp2_with (go_at_call 76; refine (HX.out _ ((HG.out.below HB.out).al _)).mono ?_)
      rintro ee w4 ⟨rfl, hb4⟩
      have hs4 := hb4.size
      simp only [World.size_alloc] at hs4
      have IB4 := lay (isB_mono (isB_mono IB.out ((Below.refl _ _).alloc (Nat.le_refl _) _)) hb4)
      have HB4 := lay (chn (HB.out.alloc (by omega) _) hb4 (by simp only [World.size_alloc]; omega))
      clear hb4 IB HB q0 q1 q2
      go_wp2_with (go_at_call 58; refine (bws w.heap.size w.heap.size _ (gtx x ++ nl) _ IB4.out (by rw [bys_len]; have h1 := HZ.out; have h2 := ln_size x; omega) (by omega)).mono ?_)
      rintro ee w5 ⟨rfl, hb, hb5⟩
      have IB5 := lay hb
      have HB5 := lay (HB4.out.trans hb5)
      clear hb hb5 IB4 HB4
      go_wp2_with (fail)
      go_roundg m
      case measure => omega
      case rel =>
        refine ⟨j + 1, by omega, by go_num, ?_, HB5⟩
        show Lib.IsBuilder _ _ _ _ _ _
        have h1 := IB5.out
        rw [bys_app, ← HS.out, HT.out] at h1
        exact Or.inr h1
end Go.Proofs.YtdbnjoeanoiifaaDoor
