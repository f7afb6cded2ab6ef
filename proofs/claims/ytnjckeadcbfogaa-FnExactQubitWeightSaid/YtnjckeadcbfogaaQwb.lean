/- QubitWeight at all circuits. -/
import Derived.Test.YtnjckeadcbfogaaQwr
import Derived.Test.YtnjckeadcbfogaaQws
import Derived.Test.YtnjckeadcbfogaaQwi
import Derived.Test.YtnjckeadcbfogaaSc
namespace Go.Proofs.Ytnjckeadcbfogaa
open Go.RowKit RM
set_option linter.unusedVariables false
set_option linter.unusedSimpArgs false
attribute [local irreducible] World.setCell

open GM
namespace C4
structure DyadicV where
  f0 : Int
  f1 : Int
  f2 : Int
  f3 : Int
  f4 : Int
abbrev DyadicV.v (x : DyadicV) : Value := .agg #[.int .i64 x.f0, .int .i64 x.f1, .int .i64 x.f2, .int .i64 x.f3, .int .i64 x.f4]
theorem eqDyadic (x : DyadicV) (w : World) : Calls Try.prog 44 #[x.v, x.v] w fun ee w' => ee = .returned (.bool true) ∧ Below w.heap.size w w' := ed _ _ _ _ _ _
end C4
theorem apl_okB {n D C : Nat} (hD : dimB (D : Int) = true) (hC : dimB (C : Int) = true) : ∀ (gs : List C4.GateV) (xs ys : List D5), (∀ (i : Nat) (g : C4.GateV), gs[i]? = some g → C4.vgB (n : Int) g = true) → okM (D : Int) (C : Int) (D * C) xs = true → apl n D C gs xs = some ys → okM (D : Int) (C : Int) (D * C) ys = true := by
  intro gs
  induction gs with
  | nil => intro xs ys _ hx h; obtain rfl := Option.some.inj h; exact hx
  | cons g gs ih =>
    intro xs ys hG hx h
    have h2 : (if stB n D C g xs then none else apl n D C gs (stF n D C g xs)) = some ys := h
    split at h2
    · cases h2
    · exact ih _ _ (fun i g hg => hG (i + 1) g (by rw [List.getElem?_cons_succ]; exact hg)) (stF_okM hD hC (vg_nat (hG 0 g rfl)).1 (okM_iff.1 hx).2.2.2) h2
/-- what StateAfter answers, in the model and in the program -/
structure StD (a0 s : Int) (m : Nat) (gs : List C4.GateV) (r q : Int) (k : Nat) (zs : List D5) (ok : Bool) : Prop where
  sp : ∀ (A : Option Addr) (c : Nat) (w W : World), C4.Rd C4.gateE w A gs → (∀ a, A = some a → a.block < w.heap.size) → Below w.heap.size w W → Calls Try.prog 36 #[C4.circuitV a0 A m c, .int .i64 s] W fun ee w' => ∃ (Bo : Option Addr) (cq : Nat), ee = .returned (mt r q Bo k cq ok) ∧ Rd w' Bo zs ∧ Below W.heap.size W w'
  im : ∀ (A : Option Addr) (c : Nat) (w W : World), C4.Rd C4.gateE w A gs → Below w.heap.size w W → Calls Try.prog 37 #[C4.circuitV a0 A m c, .int .i64 s] W fun ee w' => ∃ (Bo : Option Addr) (cq : Nat), ee = .returned (mt r q Bo k cq ok) ∧ Rd w' Bo zs ∧ Below W.heap.size W w'
  len : zs.length = k
  oks : ok = true → ∀ (j : Nat) (x : D5), zs[j]? = some x → x.ok = true
  good : ok = true → ∃ n : Nat, a0 = (n : Int) ∧ 1 ≤ n ∧ n ≤ 5 ∧ k = 2 ^ n
theorem stD {a0 s : Int} {m : Nat} {gs : List C4.GateV} (hm : gs.length = m) (hmx : m ≤ maxLen) : ∃ (r q : Int) (k : Nat) (zs : List D5) (ok : Bool), StD a0 s m gs r q k zs ok := by
  have Z : ∀ {w w' : World} {ee : Ending}, (ee = .returned (mt 0 0 none 0 0 false) ∧ Below w.heap.size w w') → ∃ (Bo : Option Addr) (cq : Nat), ee = .returned (mt 0 0 Bo 0 cq false) ∧ Rd w' Bo [] ∧ Below w.heap.size w w' := fun h => by
    obtain ⟨A, cp, he, ⟨hr, -⟩, hb⟩ := zero_law h
    exact ⟨A, cp, he, hr, hb⟩
  cases hok : C4.okC a0 m gs
  · exact ⟨0, 0, 0, [], false, fun A c w W hR hA hW => (sa_s_f (hR.mono hW) hm hmx hok).mono fun ee w' h => Z h, fun A c w W hR hW => (sa_i_f (hR.mono hW) hm hmx hok).mono fun ee w' h => Z h, rfl, fun h => (by cases h), fun h => by cases h⟩
  · obtain ⟨n, rfl, h1, h5, -, hG⟩ := okC_nat hok
    obtain ⟨d2, d32, dw, dw2, dd⟩ := pow_dim h1 h5 (D := 2 ^ n) rfl
    by_cases hl : s < 0
    · exact ⟨0, 0, 0, [], false, fun A c w W hR hA hW => (sa_s_l (hR.mono hW) hm hok hl).mono fun ee w' h => Z h, fun A c w W hR hW => (sa_i_l (hR.mono hW) hm hok hl).mono fun ee w' h => Z h, rfl, fun h => (by cases h), fun h => by cases h⟩
    by_cases hh : ((2 ^ n : Nat) : Int) ≤ s
    · exact ⟨0, 0, 0, [], false, fun A c w W hR hA hW => (sa_s_h (hR.mono hW) hm hok (by omega) hh).mono fun ee w' h => Z h, fun A c w W hR hW => (sa_i_h (hR.mono hW) hm hok (by omega) hh).mono fun ee w' h => Z h, rfl, fun h => (by cases h), fun h => by cases h⟩
    obtain ⟨t, rfl⟩ := Int.eq_ofNat_of_zero_le (show 0 ≤ s by omega)
    have ht : t < 2 ^ n := by omega
    cases hq : stA n t gs with
    | none => exact ⟨0, 0, 0, [], false, fun A c w W hR hA hW => (sa_s_t (hR.mono hW) hm hok (fun a ha => Nat.lt_of_lt_of_le (hA a ha) hW.size) ht).mono fun ee w' h => Z ⟨h.1 hq, h.2.2⟩, fun A c w W hR hW => (sa_i_t (hR.mono hW) hm hok ht).mono fun ee w' h => Z ⟨h.1 hq, h.2.2⟩, rfl, fun h => (by cases h), fun h => by cases h⟩
    | some zs =>
      exact ⟨((2 ^ n : Nat) : Int), 1, 2 ^ n, zs, true, fun A c w W hR hA hW => (sa_s_t (hR.mono hW) hm hok (fun a ha => Nat.lt_of_lt_of_le (hA a ha) hW.size) ht).mono fun ee w' h => (by obtain ⟨Bo, cq, he, hr⟩ := h.2.1 zs hq; exact ⟨Bo, cq, he, hr, h.2.2⟩), fun A c w W hR hW => (sa_i_t (hR.mono hW) hm hok ht).mono fun ee w' h => (by obtain ⟨b, he, hk, -⟩ := h.2.1 zs hq; exact ⟨_, _, he, hk.rd, h.2.2⟩), stA_len hq, fun _ j x hx => all_get (okM_iff.1 (apl_okB (C := 1) dd (by decide) gs _ zs hG (by rw [Nat.mul_one]; exact basL_ok dd) hq)).2.2.2 hx, fun _ => ⟨n, rfl, h1, h5, rfl⟩⟩
/-- what QubitWeight answers, in both -/
theorem qwC {a0 s e9 : Int} {m : Nat} {gs : List C4.GateV} (hm : gs.length = m) (hmx : m ≤ maxLen) : ∃ (y : C4.DyadicV) (r : Bool), (∀ (A : Option Addr) (c : Nat) (w : World), C4.Rd C4.gateE w A gs → (∀ a, A = some a → a.block < w.heap.size) → Calls Try.prog 45 #[C4.circuitV a0 A m c, .int .i64 s, .int .i64 e9] w fun ee w' => ee = .returned (.tuple #[y.v, .bool r]) ∧ Below w.heap.size w w') ∧ (∀ (A : Option Addr) (c : Nat) (w : World), C4.Rd C4.gateE w A gs → Calls Try.prog 46 #[C4.circuitV a0 A m c, .int .i64 s, .int .i64 e9] w fun ee w' => ee = .returned (.tuple #[y.v, .bool r]) ∧ Below w.heap.size w w') := by
  obtain ⟨r, t, k, zs, ok, O⟩ := stD (a0 := a0) (s := s) hm hmx
  cases ok
  · exact ⟨⟨0, 0, 0, 0, 0⟩, false, fun A c w hA lA => qw_s_f (fun W hW => O.sp A c w W hA lA hW), fun A c w hA => qw_i_f (fun W hW => O.im A c w W hA hW)⟩
  obtain ⟨n, rfl, q1, q5, hK⟩ := O.good rfl
  by_cases hl : 0 ≤ e9 ∧ e9 ≤ (n : Int) - 1
  · obtain ⟨q, rfl⟩ := Int.eq_ofNat_of_zero_le hl.1
    have hq : q < n := by omega
    obtain ⟨⟨p, z⟩, hp⟩ : ∃ y, qwF n q zs k = y := ⟨_, rfl⟩
    cases z
    · exact ⟨⟨p.a, p.b, p.c, p.d, p.e⟩, true, fun A c w hA lA => (qw_s_t (fun W hW => O.sp A c w W hA lA hW) q1 q5 hK hq O.len (O.oks rfl)).mono fun ee w' h => (by rw [hp] at h; exact ⟨h.2.1 rfl, h.2.2⟩), fun A c w hA => (qw_i_t (fun W hW => O.im A c w W hA hW) q1 q5 hK hq O.len (O.oks rfl)).mono fun ee w' h => (by rw [hp] at h; exact ⟨h.2.1 rfl, h.2.2⟩)⟩
    · exact ⟨⟨0, 0, 0, 0, 0⟩, false, fun A c w hA lA => (qw_s_t (fun W hW => O.sp A c w W hA lA hW) q1 q5 hK hq O.len (O.oks rfl)).mono fun ee w' h => (by rw [hp] at h; exact ⟨h.1 rfl, h.2.2⟩), fun A c w hA => (qw_i_t (fun W hW => O.im A c w W hA hW) q1 q5 hK hq O.len (O.oks rfl)).mono fun ee w' h => (by rw [hp] at h; exact ⟨h.1 rfl, h.2.2⟩)⟩
  · exact ⟨⟨0, 0, 0, 0, 0⟩, false, fun A c w hA lA => qw_s_r (fun W hW => O.sp A c w W hA lA hW) q1 q5 (C4.inB_f hl), fun A c w hA => qw_i_r (fun W hW => O.im A c w W hA hW) q1 q5 (C4.inB_f hl)⟩
end Go.Proofs.Ytnjckeadcbfogaa
