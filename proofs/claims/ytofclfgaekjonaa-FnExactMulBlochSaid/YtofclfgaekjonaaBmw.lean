/- MulBloch: the law. -/
import Derived.Test.YtofclfgaekjonaaBmi
import Derived.Test.YtofclfgaekjonaaBml
namespace Go.Proofs.Ytofclfgaekjonaa
open Go.RowKit RM
set_option linter.unusedVariables false
set_option linter.unusedSimpArgs false
attribute [local irreducible] World.setCell

theorem fnExactMulBloch_walk {A B : Option Addr} {n m cp cp' : Nat} {xs ys : List D5} {w : World} (hA : Rd w A xs) (hn : xs.length = n) (hmx : n ≤ maxLen) (hB : Rd w B ys) (hm : ys.length = m) (hmy : m ≤ maxLen) :
    Calls Try.prog 7 #[bv A n cp, bv B m cp'] w fun ee w' => ee = .returned (.bool true) ∧ Below w.heap.size w w' := by
  by_cases hb : n ≤ 1048576
  · by_cases hb2 : n + m ≤ 1048576
    · have b2 : m ≤ 1048576 := by omega
      cases h1 : okBl n xs
      · exact lwMulBloch (k := 0) (zs := []) (ok := false) (fun g h w k1 k2 => (mb_s_1 k1 k2 hn hm hb b2 h1).mono fun _ _ ⟨e, hw⟩ => ⟨none, 0, e, ⟨Rd.nil _ _, fun a ha => by cases ha⟩, hw⟩) (fun g h w k1 k2 => (mb_i_1 k1 k2 hn hm hb b2 h1).mono fun _ _ ⟨e, hw⟩ => ⟨none, 0, e, Or.inl ⟨rfl, rfl⟩, hw⟩) rfl (by decide) hA hB hn hm hb2
      · cases h2 : okBl m ys
        · exact lwMulBloch (k := 0) (zs := []) (ok := false) (fun g h w k1 k2 => (mb_s_2 k1 k2 hn hm hb b2 h1 h2).mono fun _ _ ⟨e, hw⟩ => ⟨none, 0, e, ⟨Rd.nil _ _, fun a ha => by cases ha⟩, hw⟩) (fun g h w k1 k2 => (mb_i_2 k1 k2 hn hm hb b2 h1 h2).mono fun _ _ ⟨e, hw⟩ => ⟨none, 0, e, Or.inl ⟨rfl, rfl⟩, hw⟩) rfl (by decide) hA hB hn hm hb2
        · cases hany : anyB 9 (mmG 3 3 xs ys)
          · exact lwMulBloch (k := 9) (zs := tab 9 (mmF 3 3 xs ys)) (ok := true) (fun g h w k1 k2 => mb_s_4 k1 k2 hn hm hb b2 h1 h2 hany) (fun g h w k1 k2 => (mb_i_4 k1 k2 hn hm hb b2 h1 h2 hany).mono fun _ _ ⟨g, e, hk, hg, hw⟩ => ⟨some ⟨g, 0, none⟩, 9, e, hk.ow hg, hw⟩) (tab_len _ _) (by decide) hA hB hn hm hb2
          · exact lwMulBloch (k := 0) (zs := []) (ok := false) (fun g h w k1 k2 => (mb_s_3 k1 k2 hn hm hb b2 h1 h2 hany).mono fun _ _ ⟨e, hw⟩ => ⟨none, 0, e, ⟨Rd.nil _ _, fun a ha => by cases ha⟩, hw⟩) (fun g h w k1 k2 => (mb_i_3 k1 k2 hn hm hb b2 h1 h2 hany).mono fun _ _ ⟨e, hw⟩ => ⟨none, 0, e, Or.inl ⟨rfl, rfl⟩, hw⟩) rfl (by decide) hA hB hn hm hb2
    · exact bigMulBloch1 hb (by omega) (by omega) hmy
  · exact bigMulBloch0 (by omega) hmx


end Go.Proofs.Ytofclfgaekjonaa
