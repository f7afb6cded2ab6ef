/- SameOperator at all circuits. -/
import Derived.Test.YtgcligmpdlffoaaSoa
import Derived.Test.YtgcligmpdlffoaaLwIp
import Derived.Test.YtgcligmpdlffoaaZp38
namespace Go.Proofs.Ytgcligmpdlffoaa
open Go.RowKit RM
set_option linter.unusedVariables false
set_option linter.unusedSimpArgs false
attribute [local irreducible] World.setCell

open GM
/-- what OperatorOf answers on a circuit, in the program and in the model -/
structure OpC (a0 : Int) (m : Nat) (gs : List C4.GateV) (r s : Int) (k : Nat) (zs : List D5) (ok : Bool) : Prop where
  sp : ∀ (A : Option Addr) (c : Nat) (w W : World), C4.Rd C4.gateE w A gs → (∀ a, A = some a → a.block < w.heap.size) → Below w.heap.size w W → Calls Try.prog 58 #[C4.circuitV a0 A m c] W fun ee w' => ∃ (Bo : Option Addr) (cq : Nat), ee = .returned (mt r s Bo k cq ok) ∧ Rd w' Bo zs ∧ Below W.heap.size W w'
  im : ∀ (A : Option Addr) (c : Nat) (w W : World), C4.Rd C4.gateE w A gs → Below w.heap.size w W → Calls Try.prog 61 #[C4.circuitV a0 A m c] W fun ee w' => ∃ (Bo : Option Addr) (cq : Nat), ee = .returned (mt r s Bo k cq ok) ∧ Rd w' Bo zs ∧ Below W.heap.size W w'
  len : zs.length = k
  good : ok = true → okM r s k zs = true
theorem opC {a0 : Int} {m : Nat} {gs : List C4.GateV} (hm : gs.length = m) (hmx : m ≤ maxLen) : ∃ (r s : Int) (k : Nat) (zs : List D5) (ok : Bool), OpC a0 m gs r s k zs ok := by
  cases hok : C4.okC a0 m gs
  · refine ⟨0, 0, 0, [], false, ?_, ?_, rfl, fun h => by cases h⟩
    · intro A c w W hR hA hW
      exact (op_s_f (hR.mono hW) hm hmx hok).mono fun ee w' h => by obtain ⟨A, cp, he, ⟨hr, -⟩, hb⟩ := zero_law h; exact ⟨A, cp, he, hr, hb⟩
    · intro A c w W hR hW
      exact (op_i_f (hR.mono hW) hm hmx hok).mono fun ee w' h => by obtain ⟨A, cp, he, ⟨hr, -⟩, hb⟩ := zero_law h; exact ⟨A, cp, he, hr, hb⟩
  · obtain ⟨n, rfl, h1, h5, -, -⟩ := okC_nat hok
    cases hq : opL n gs with
    | none =>
      refine ⟨0, 0, 0, [], false, ?_, ?_, rfl, fun h => by cases h⟩
      · intro A c w W hR hA hW
        exact (op_s_t (hR.mono hW) hm hok (fun a ha => Nat.lt_of_lt_of_le (hA a ha) hW.size)).mono fun ee w' h => by obtain ⟨A, cp, he, ⟨hr, -⟩, hb⟩ := zero_law ⟨h.1 hq, h.2.2⟩; exact ⟨A, cp, he, hr, hb⟩
      · intro A c w W hR hW
        exact (op_i_t (hR.mono hW) hm hok).mono fun ee w' h => by obtain ⟨A, cp, he, ⟨hr, -⟩, hb⟩ := zero_law ⟨h.1 hq, h.2.2⟩; exact ⟨A, cp, he, hr, hb⟩
    | some zs =>
      refine ⟨((2 ^ n : Nat) : Int), ((2 ^ n : Nat) : Int), 2 ^ n * 2 ^ n, zs, true, ?_, ?_, apl_len gs _ zs hq (tab_len _ _), fun _ => opL_ok h1 h5 hok hq⟩
      · intro A c w W hR hA hW
        exact (op_s_t (hR.mono hW) hm hok (fun a ha => Nat.lt_of_lt_of_le (hA a ha) hW.size)).mono fun ee w' h => by obtain ⟨Bo, cq, he, hr, -⟩ := h.2.1 zs hq; exact ⟨Bo, cq, he, hr, h.2.2⟩
      · intro A c w W hR hW
        exact (op_i_t (hR.mono hW) hm hok).mono fun ee w' h => by obtain ⟨b, he, hk, hg⟩ := h.2.1 zs hq; exact ⟨_, _, he, hk.rd, h.2.2⟩
/-- what SameOperator answers, in both -/
theorem soC {a0 b0 : Int} {m p : Nat} {gs hs : List C4.GateV} (hm : gs.length = m) (hmx : m ≤ maxLen) (hp : hs.length = p) (hpx : p ≤ maxLen) : ∃ r0 r1 : Bool, (∀ (A B : Option Addr) (c d : Nat) (w : World), C4.Rd C4.gateE w A gs → C4.Rd C4.gateE w B hs → (∀ a, A = some a → a.block < w.heap.size) → (∀ a, B = some a → a.block < w.heap.size) → Calls Try.prog 17 #[C4.circuitV a0 A m c, C4.circuitV b0 B p d] w fun ee w' => ee = .returned (.tuple #[.bool r0, .bool r1]) ∧ Below w.heap.size w w') ∧ (∀ (A B : Option Addr) (c d : Nat) (w : World), C4.Rd C4.gateE w A gs → C4.Rd C4.gateE w B hs → Calls Try.prog 19 #[C4.circuitV a0 A m c, C4.circuitV b0 B p d] w fun ee w' => ee = .returned (.tuple #[.bool r0, .bool r1]) ∧ Below w.heap.size w w') := by
  obtain ⟨r1, s1, k1, zs, ok1, O1⟩ := opC (a0 := a0) hm hmx
  obtain ⟨r2, s2, k2, ys, ok2, O2⟩ := opC (a0 := b0) hp hpx
  cases ok1
  · exact ⟨false, false, fun A B c d w hA hB lA lB => so_s_f1 (fun W hW => O1.sp A c w W hA lA hW) (fun W hW => O2.sp B d w W hB lB hW), fun A B c d w hA hB => so_i_f1 (fun W hW => O1.im A c w W hA hW) (fun W hW => O2.im B d w W hB hW)⟩
  cases ok2
  · exact ⟨false, false, fun A B c d w hA hB lA lB => so_s_f2 (fun W hW => O1.sp A c w W hA lA hW) (fun W hW => O2.sp B d w W hB lB hW), fun A B c d w hA hB => so_i_f2 (fun W hW => O1.im A c w W hA hW) (fun W hW => O2.im B d w W hB hW)⟩
  by_cases he : a0 = b0
  · rcases ph_any (badK r1 s1 r2 s2 k1 zs ys) with ⟨K, q1, q2, q3⟩ | k
    · exact ⟨true, true, fun A B c d w hA hB lA lB => (so_s_t (fun W hW => O1.sp A c w W hA lA hW) (fun W hW => O2.sp B d w W hB lB hW) he O1.len O2.len (O1.good rfl) (O2.good rfl)).mono fun ee w' q => ⟨q.1 K q1 q2 q3, q.2.2⟩, fun A B c d w hA hB => (so_i_t (fun W hW => O1.im A c w W hA hW) (fun W hW => O2.im B d w W hB hW) he O1.len O2.len (O1.good rfl) (O2.good rfl)).mono fun ee w' q => ⟨q.1 K q1 q2 q3, q.2.2⟩⟩
    · exact ⟨false, true, fun A B c d w hA hB lA lB => (so_s_t (fun W hW => O1.sp A c w W hA lA hW) (fun W hW => O2.sp B d w W hB lB hW) he O1.len O2.len (O1.good rfl) (O2.good rfl)).mono fun ee w' q => ⟨q.2.1 k, q.2.2⟩, fun A B c d w hA hB => (so_i_t (fun W hW => O1.im A c w W hA hW) (fun W hW => O2.im B d w W hB hW) he O1.len O2.len (O1.good rfl) (O2.good rfl)).mono fun ee w' q => ⟨q.2.1 k, q.2.2⟩⟩
  · exact ⟨false, false, fun A B c d w hA hB lA lB => so_s_f3 (fun W hW => O1.sp A c w W hA lA hW) (fun W hW => O2.sp B d w W hB lB hW) he, fun A B c d w hA hB => so_i_f3 (fun W hW => O1.im A c w W hA hW) (fun W hW => O2.im B d w W hB hW) he⟩
end Go.Proofs.Ytgcligmpdlffoaa
