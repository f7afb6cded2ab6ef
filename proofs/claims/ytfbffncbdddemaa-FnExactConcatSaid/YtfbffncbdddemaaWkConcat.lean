/- The law on Concat at all arguments. -/
import Derived.Test.YtfbffncbdddemaaLwConcat
import Derived.Test.YtfbffncbdddemaaBg
import Derived.Test.YtfbffncbdddemaaGo5
namespace Go.Proofs.Ytfbffncbdddemaa
open Go.RowKit
set_option linter.unusedVariables false
set_option linter.unusedSimpArgs false
attribute [local irreducible] World.setCell

theorem fnExactConcat_walk {a0p0 : Int} {A1p0 : Option Addr} {n1p0 c1p0 : Nat} {xs1p0 : List GateV} {a0p1 : Int} {A1p1 : Option Addr} {n1p1 c1p1 : Nat} {xs1p1 : List GateV} {w : World} (hA1p0 : Rd gateE w A1p0 xs1p0) (hn1p0 : xs1p0.length = n1p0) (hm1p0 : n1p0 ≤ maxLen) (hA1p1 : Rd gateE w A1p1 xs1p1) (hn1p1 : xs1p1.length = n1p1) (hm1p1 : n1p1 ≤ maxLen) :
    Calls Try.prog 14 #[(circuitV a0p0 A1p0 n1p0 c1p0), (circuitV a0p1 A1p1 n1p1 c1p1)] w fun ee w' => ee = .returned (.bool true) ∧ Below w.heap.size w w' := by
  by_cases hb1p0 : (n1p0 : Int) ≤ 1048576
  · skip
    by_cases hb1p1 : (n1p1 : Int) ≤ 1048576 - (n1p0 : Int)
    · skip
      cases ho : okC a0p0 n1p0 xs1p0
      · exact lwConcat (a0q0 := 0) (k1q0 := 0) (zs1q0 := []) (r1 := false) (fun g h w k l => (sConcat_a k l hn1p0 hn1p1 hm1p0 hm1p1 ho).mono fun ee w' h => ⟨none, 0, h.1, ⟨Rd.nil _ _, fun a ha => by cases ha⟩, h.2⟩) (fun g h w k l => (iConcat_a k l hn1p0 hn1p1 hm1p0 hm1p1 ho).mono fun ee w' h => ⟨none, 0, h.1, Ow.none, h.2⟩) rfl (by omega) hA1p0 hn1p0 hb1p0 hA1p1 hn1p1 hb1p1
      · cases hp : okC a0p1 n1p1 xs1p1
        · exact lwConcat (a0q0 := 0) (k1q0 := 0) (zs1q0 := []) (r1 := false) (fun g h w k l => (sConcat_b k l hn1p0 hn1p1 hm1p0 hm1p1 ho hp).mono fun ee w' h => ⟨none, 0, h.1, ⟨Rd.nil _ _, fun a ha => by cases ha⟩, h.2⟩) (fun g h w k l => (iConcat_b k l hn1p0 hn1p1 hm1p0 hm1p1 ho hp).mono fun ee w' h => ⟨none, 0, h.1, Ow.none, h.2⟩) rfl (by omega) hA1p0 hn1p0 hb1p0 hA1p1 hn1p1 hb1p1
        · by_cases hq : a0p0 = a0p1
          · have h4 := (okC_iff.1 ho).2.2.1
            have h5 := (okC_iff.1 hp).2.2.1
            by_cases hl : n1p0 + n1p1 ≤ 400
            · exact lwConcat (a0q0 := a0p0) (zs1q0 := xs1p0 ++ xs1p1) (r1 := true) (fun g h w k l => sConcat_t k l hn1p0 hn1p1 hm1p0 hm1p1 ho hp hq hl) (fun g h w k l => iConcat_t k l hn1p0 hn1p1 hm1p0 hm1p1 ho hp hq hl) rfl (by rw [List.length_append, hn1p0, hn1p1]; omega) hA1p0 hn1p0 hb1p0 hA1p1 hn1p1 hb1p1
            · exact lwConcat (a0q0 := 0) (k1q0 := 0) (zs1q0 := []) (r1 := false) (fun g h w k l => (sConcat_n k l hn1p0 hn1p1 hm1p0 hm1p1 ho hp hq (by omega) h4 h5).mono fun ee w' h => ⟨none, 0, h.1, ⟨Rd.nil _ _, fun a ha => by cases ha⟩, h.2⟩) (fun g h w k l => (iConcat_n k l hn1p0 hn1p1 hm1p0 hm1p1 ho hp hq (by omega) h4 h5).mono fun ee w' h => ⟨none, 0, h.1, Ow.none, h.2⟩) rfl (by omega) hA1p0 hn1p0 hb1p0 hA1p1 hn1p1 hb1p1
          · exact lwConcat (a0q0 := 0) (k1q0 := 0) (zs1q0 := []) (r1 := false) (fun g h w k l => (sConcat_q k l hn1p0 hn1p1 hm1p0 hm1p1 ho hp hq).mono fun ee w' h => ⟨none, 0, h.1, ⟨Rd.nil _ _, fun a ha => by cases ha⟩, h.2⟩) (fun g h w k l => (iConcat_q k l hn1p0 hn1p1 hm1p0 hm1p1 ho hp hq).mono fun ee w' h => ⟨none, 0, h.1, Ow.none, h.2⟩) rfl (by omega) hA1p0 hn1p0 hb1p0 hA1p1 hn1p1 hb1p1
    · exact bigConcat1 hb1p0 (by omega) hm1p1
  · exact bigConcat0  (by omega) hm1p0

end Go.Proofs.Ytfbffncbdddemaa
