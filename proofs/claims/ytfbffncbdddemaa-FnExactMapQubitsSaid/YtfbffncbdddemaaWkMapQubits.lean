/- The law on MapQubits at all arguments. -/
import Derived.Test.YtfbffncbdddemaaLwMapQubits
import Derived.Test.YtfbffncbdddemaaBg
import Derived.Test.YtfbffncbdddemaaGs
namespace Go.Proofs.Ytfbffncbdddemaa
open Go.RowKit
set_option linter.unusedVariables false
set_option linter.unusedSimpArgs false
attribute [local irreducible] World.setCell

theorem fnExactMapQubits_walk {a0p0 : Int} {A1p0 : Option Addr} {n1p0 c1p0 : Nat} {xs1p0 : List GateV} {A1 : Option Addr} {n1 c1 : Nat} {xs1 : List Int} {i2 : Int} {w : World} (hA1p0 : Rd gateE w A1p0 xs1p0) (hn1p0 : xs1p0.length = n1p0) (hm1p0 : n1p0 ≤ maxLen) (hA1 : Rd intE w A1 xs1) (hn1 : xs1.length = n1) (hm1 : n1 ≤ maxLen) :
    Calls Try.prog 18 #[(circuitV a0p0 A1p0 n1p0 c1p0), .slice A1 n1 c1, .int .i64 i2] w fun ee w' => ee = .returned (.bool true) ∧ Below w.heap.size w w' := by
  by_cases hb1 : n1 ≤ 1048576
  · skip
    by_cases hb1p0 : (n1p0 : Int) ≤ 1048576
    · skip
      cases ho : okC a0p0 n1p0 xs1p0
      · exact lwMapQubits (a0q0 := 0) (k1q0 := 0) (zs1q0 := []) (r1 := false) (fun g h w k l => (sMap_v k l hn1p0 hn1 hm1p0 hb1 ho).mono fun ee w' h => ⟨none, 0, h.1, ⟨Rd.nil _ _, fun a ha => by cases ha⟩, h.2⟩) (fun g h w k l => (iMap_v k l hn1p0 hn1 hm1p0 hb1 ho).mono fun ee w' h => ⟨none, 0, h.1, Ow.none, h.2⟩) rfl (by omega) hA1p0 hn1p0 hb1p0 hA1 hn1 hb1
      · cases hq : inB i2 1 5
        · exact lwMapQubits (a0q0 := 0) (k1q0 := 0) (zs1q0 := []) (r1 := false) (fun g h w k l => (sMap_n k l hn1p0 hn1 hm1p0 hb1 ho hq).mono fun ee w' h => ⟨none, 0, h.1, ⟨Rd.nil _ _, fun a ha => by cases ha⟩, h.2⟩) (fun g h w k l => (iMap_n k l hn1p0 hn1 hm1p0 hb1 ho hq).mono fun ee w' h => ⟨none, 0, h.1, Ow.none, h.2⟩) rfl (by omega) hA1p0 hn1p0 hb1p0 hA1 hn1 hb1
        · by_cases hl : (n1 : Int) = a0p0
          · by_cases hx : ∀ x ∈ xs1, inB x 0 (i2 - 1) = true
            · by_cases ht : xs1.Nodup
              · exact lwMapQubits (a0q0 := i2) (zs1q0 := xs1p0.map (mapG xs1)) (r1 := true) (fun g h w k l => sMap_t k l hn1p0 hn1 hm1p0 hb1 ho hq hl hx ht) (fun g h w k l => iMap_t k l hn1p0 hn1 hm1p0 hb1 ho hq hl ⟨hx, ht⟩) rfl (by rw [List.length_map, hn1p0]; omega) hA1p0 hn1p0 hb1p0 hA1 hn1 hb1
              · exact lwMapQubits (a0q0 := 0) (k1q0 := 0) (zs1q0 := []) (r1 := false) (fun g h w k l => (sMap_d k l hn1p0 hn1 hm1p0 hb1 ho hq hl hx ht).mono fun ee w' h => ⟨none, 0, h.1, ⟨Rd.nil _ _, fun a ha => by cases ha⟩, h.2⟩) (fun g h w k l => (iMap_d k l hn1p0 hn1 hm1p0 hb1 ho hq hl (fun k => ht k.2)).mono fun ee w' h => ⟨none, 0, h.1, Ow.none, h.2⟩) rfl (by omega) hA1p0 hn1p0 hb1p0 hA1 hn1 hb1
            · exact lwMapQubits (a0q0 := 0) (k1q0 := 0) (zs1q0 := []) (r1 := false) (fun g h w k l => (sMap_a k l hn1p0 hn1 hm1p0 hb1 ho hq hl hx).mono fun ee w' h => ⟨none, 0, h.1, ⟨Rd.nil _ _, fun a ha => by cases ha⟩, h.2⟩) (fun g h w k l => (iMap_d k l hn1p0 hn1 hm1p0 hb1 ho hq hl (fun k => hx k.1)).mono fun ee w' h => ⟨none, 0, h.1, Ow.none, h.2⟩) rfl (by omega) hA1p0 hn1p0 hb1p0 hA1 hn1 hb1
          · exact lwMapQubits (a0q0 := 0) (k1q0 := 0) (zs1q0 := []) (r1 := false) (fun g h w k l => (sMap_l k l hn1p0 hn1 hm1p0 hb1 ho hq hl).mono fun ee w' h => ⟨none, 0, h.1, ⟨Rd.nil _ _, fun a ha => by cases ha⟩, h.2⟩) (fun g h w k l => (iMap_l k l hn1p0 hn1 hm1p0 hb1 ho hq hl).mono fun ee w' h => ⟨none, 0, h.1, Ow.none, h.2⟩) rfl (by omega) hA1p0 hn1p0 hb1p0 hA1 hn1 hb1
    · exact bigMapQubits1 hb1 (by omega) hm1p0
  · exact bigMapQubits0  (by omega) hm1

end Go.Proofs.Ytfbffncbdddemaa
