/- OutcomeWeight: both sides. -/
import Derived.Test.YtnjckeadcbfogaaSc
import Derived.Test.YtnjckeadcbfogaaMulTwo
import Derived.Test.YtnjckeadcbfogaaZp2
import Derived.Test.YtnjckeadcbfogaaZp25
namespace Go.Proofs.Ytnjckeadcbfogaa
open Go.RowKit RM
set_option linter.unusedVariables false
set_option linter.unusedSimpArgs false
attribute [local irreducible] World.setCell

theorem ns_any (a b c d e : Int) : (∃ (L M N O : Int) (E : Nat), vd L M N O E = true ∧ (∀ w : World, Calls Try.prog 104 #[dy a b c d e] w fun ee w' => ee = .returned (dt L M N O E true) ∧ Below w.heap.size w w') ∧ (∀ w : World, Calls Try.prog 105 #[dy a b c d e] w fun ee w' => ee = .returned (dt L M N O E true) ∧ Below w.heap.size w w')) ∨ ((∀ w : World, Calls Try.prog 104 #[dy a b c d e] w fun ee w' => ee = .returned (dt 0 0 0 0 0 false) ∧ Below w.heap.size w w') ∧ (∀ w : World, Calls Try.prog 105 #[dy a b c d e] w fun ee w' => ee = .returned (dt 0 0 0 0 0 false) ∧ Below w.heap.size w w')) := by
  rcases vi_cases (a := a) (b := b) (c := c) (d := d) (e := e) with h | ⟨n, rfl, h⟩
  · exact Or.inr ⟨fun w => ns_s_f _ _ _ _ _ w h, fun w => ns_i_f _ _ _ _ _ w h⟩
  · exact ns_two h

open GM
/-- what StateAfter answers, in the model and in the program -/
structure StC (a0 s : Int) (m : Nat) (gs : List C4.GateV) (r q : Int) (k : Nat) (zs : List D5) (ok : Bool) : Prop where
  sp : ∀ (A : Option Addr) (c : Nat) (w W : World), C4.Rd C4.gateE w A gs → (∀ a, A = some a → a.block < w.heap.size) → Below w.heap.size w W → Calls Try.prog 36 #[C4.circuitV a0 A m c, .int .i64 s] W fun ee w' => ∃ (Bo : Option Addr) (cq : Nat), ee = .returned (mt r q Bo k cq ok) ∧ Rd w' Bo zs ∧ Below W.heap.size W w'
  im : ∀ (A : Option Addr) (c : Nat) (w W : World), C4.Rd C4.gateE w A gs → Below w.heap.size w W → Calls Try.prog 37 #[C4.circuitV a0 A m c, .int .i64 s] W fun ee w' => ∃ (Bo : Option Addr) (cq : Nat), ee = .returned (mt r q Bo k cq ok) ∧ Rd w' Bo zs ∧ Below W.heap.size W w'
  len : zs.length = k
  good : ok = true → ∃ n : Nat, a0 = (n : Int) ∧ 1 ≤ n ∧ n ≤ 5 ∧ k = 2 ^ n
theorem stC {a0 s : Int} {m : Nat} {gs : List C4.GateV} (hm : gs.length = m) (hmx : m ≤ maxLen) : ∃ (r q : Int) (k : Nat) (zs : List D5) (ok : Bool), StC a0 s m gs r q k zs ok := by
  have Z : ∀ {w w' : World} {ee : Ending}, (ee = .returned (mt 0 0 none 0 0 false) ∧ Below w.heap.size w w') → ∃ (Bo : Option Addr) (cq : Nat), ee = .returned (mt 0 0 Bo 0 cq false) ∧ Rd w' Bo [] ∧ Below w.heap.size w w' := fun h => by
    obtain ⟨A, cp, he, ⟨hr, -⟩, hb⟩ := zero_law h
    exact ⟨A, cp, he, hr, hb⟩
  cases hok : C4.okC a0 m gs
  · exact ⟨0, 0, 0, [], false, fun A c w W hR hA hW => (sa_s_f (hR.mono hW) hm hmx hok).mono fun ee w' h => Z h, fun A c w W hR hW => (sa_i_f (hR.mono hW) hm hmx hok).mono fun ee w' h => Z h, rfl, fun h => by cases h⟩
  · obtain ⟨n, rfl, h1, h5, -, -⟩ := okC_nat hok
    by_cases hl : s < 0
    · exact ⟨0, 0, 0, [], false, fun A c w W hR hA hW => (sa_s_l (hR.mono hW) hm hok hl).mono fun ee w' h => Z h, fun A c w W hR hW => (sa_i_l (hR.mono hW) hm hok hl).mono fun ee w' h => Z h, rfl, fun h => by cases h⟩
    by_cases hh : ((2 ^ n : Nat) : Int) ≤ s
    · exact ⟨0, 0, 0, [], false, fun A c w W hR hA hW => (sa_s_h (hR.mono hW) hm hok (by omega) hh).mono fun ee w' h => Z h, fun A c w W hR hW => (sa_i_h (hR.mono hW) hm hok (by omega) hh).mono fun ee w' h => Z h, rfl, fun h => by cases h⟩
    obtain ⟨t, rfl⟩ := Int.eq_ofNat_of_zero_le (show 0 ≤ s by omega)
    have ht : t < 2 ^ n := by omega
    cases hq : stA n t gs with
    | none => exact ⟨0, 0, 0, [], false, fun A c w W hR hA hW => (sa_s_t (hR.mono hW) hm hok (fun a ha => Nat.lt_of_lt_of_le (hA a ha) hW.size) ht).mono fun ee w' h => Z ⟨h.1 hq, h.2.2⟩, fun A c w W hR hW => (sa_i_t (hR.mono hW) hm hok ht).mono fun ee w' h => Z ⟨h.1 hq, h.2.2⟩, rfl, fun h => by cases h⟩
    | some zs =>
      exact ⟨((2 ^ n : Nat) : Int), 1, 2 ^ n, zs, true, fun A c w W hR hA hW => (sa_s_t (hR.mono hW) hm hok (fun a ha => Nat.lt_of_lt_of_le (hA a ha) hW.size) ht).mono fun ee w' h => (by obtain ⟨Bo, cq, he, hr⟩ := h.2.1 zs hq; exact ⟨Bo, cq, he, hr, h.2.2⟩), fun A c w W hR hW => (sa_i_t (hR.mono hW) hm hok ht).mono fun ee w' h => (by obtain ⟨b, he, hk, -⟩ := h.2.1 zs hq; exact ⟨_, _, he, hk.rd, h.2.2⟩), stA_len hq, fun _ => ⟨n, rfl, h1, h5, rfl⟩⟩
set_option maxRecDepth 100000 in
set_option maxHeartbeats 8000000 in
theorem ow_s_f {a0 s en : Int} {A : Option Addr} {m c : Nat} {r q : Int} {k : Nat} {zs : List D5} {w : World} (h1 : ∀ W : World, Below w.heap.size w W → Calls Try.prog 36 #[C4.circuitV a0 A m c, .int .i64 s] W fun ee w' => ∃ (Bo : Option Addr) (cq : Nat), ee = .returned (mt r q Bo k cq false) ∧ Rd w' Bo zs ∧ Below W.heap.size W w') :
    Calls Try.prog 42 #[C4.circuitV a0 A m c, .int .i64 s, .int .i64 en] w fun ee w' => ee = .returned (dt 0 0 0 0 0 false) ∧ Below w.heap.size w w' := by
  have H1 := hid h1
  clear h1
  go_enter Try.func42, Try.ntmps42
  go_wp2_with (fail)
  refine (H1.out _ (by (repeat' (first | (with_reducible exact Below.refl _ _) | (with_reducible assumption) | (with_reducible refine Below.alloc ?_ ?_ _) | (with_reducible refine Below.drew ?_) | (with_reducible refine below_drewN ?_ _) | (with_reducible refine Below.setCell ?_ ?_ _) | (with_reducible refine chain ?_ (by assumption) ?_) | omega | (simp; done) | (simp; omega))))).mono ?_
  rintro ee w1 ⟨Bo1, cq1, rfl, hR1, hb1⟩
  have Xa1 : Bx w1 (w.heap.size) 45 #[.int .i64 a0, .slice A m c] := by (repeat' (first | (with_reducible assumption) | (refine Bx.new (by first | (with_reducible rfl) | (simp; done))) | (with_reducible refine Bx.alloc ?_ _) | (with_reducible refine Bx.drew ?_) | (with_reducible refine Bx.drewN ?_ _) | (with_reducible refine Bx.mono ?_ (by assumption)) | (with_reducible refine Bx.badly ?_ (by assumption) (by omega)) | (with_reducible refine Bx.far ?_ (by (try simp only [World.size_alloc, World.size_drew]); omega)) | (with_reducible refine Bx.set ?_ rfl) | (with_reducible refine Bx.grown ?_ (by assumption) (by assumption))))
  have Xz1 : Bx w1 (w.heap.size + 1) 59 #[.int .i64 0, .int .i64 0, .int .i64 0, .int .i64 0, .int .i64 0] := by (repeat' (first | (with_reducible assumption) | (refine Bx.new (by first | (with_reducible rfl) | (simp; done))) | (with_reducible refine Bx.alloc ?_ _) | (with_reducible refine Bx.drew ?_) | (with_reducible refine Bx.drewN ?_ _) | (with_reducible refine Bx.mono ?_ (by assumption)) | (with_reducible refine Bx.badly ?_ (by assumption) (by omega)) | (with_reducible refine Bx.far ?_ (by (try simp only [World.size_alloc, World.size_drew]); omega)) | (with_reducible refine Bx.set ?_ rfl) | (with_reducible refine Bx.grown ?_ (by assumption) (by assumption))))
  have hz1 := hb1.size
  (try simp only [World.size_alloc] at hz1)
  have hw1 : Below w.heap.size w w1 := by (repeat' (first | (with_reducible exact Below.refl _ _) | (with_reducible assumption) | (with_reducible refine Below.alloc ?_ ?_ _) | (with_reducible refine Below.drew ?_) | (with_reducible refine below_drewN ?_ _) | (with_reducible refine Below.setCell ?_ ?_ _) | (with_reducible refine chain ?_ (by assumption) ?_) | omega | (simp; done) | (simp; omega)))
  have HR1 := hid hR1
  have a0' := Xa1.c 0 rfl
  have a1' := Xa1.c 1 rfl
  have la := Xa1.lt
  have lz := Xz1.lt
  have fz := Xz1.f
  have z0' := Xz1.c 0 rfl
  have z1' := Xz1.c 1 rfl
  have z2' := Xz1.c 2 rfl
  have z3' := Xz1.c 3 rfl
  have z4' := Xz1.c 4 rfl
  clear hb1 hR1
  go_wp2_with (fail)
  refine bodyPost_ret (v := dt 0 0 0 0 0 false) (by first | (simp [results, Try.results42, go_sem, *]; done) | (simp (disch := (first | omega | (simp; done) | (simp; omega))) [results, Try.results42, go_sem, *]; done) | (simp only [results, Try.results42]; go_simp; done)) rfl ⟨rfl, ?_⟩
  (repeat' (first | (with_reducible exact Below.refl _ _) | (with_reducible assumption) | (with_reducible refine Below.alloc ?_ ?_ _) | (with_reducible refine Below.drew ?_) | (with_reducible refine below_drewN ?_ _) | (with_reducible refine Below.setCell ?_ ?_ _) | (with_reducible refine chain ?_ (by assumption) ?_) | omega | (simp; done) | (simp; omega)))

set_option maxRecDepth 100000 in
set_option maxHeartbeats 8000000 in
theorem ow_s_l {n : Nat} {s en : Int} {A : Option Addr} {m c : Nat} {r q : Int} {k : Nat} {zs : List D5} {w : World} (h1 : ∀ W : World, Below w.heap.size w W → Calls Try.prog 36 #[C4.circuitV (n : Int) A m c, .int .i64 s] W fun ee w' => ∃ (Bo : Option Addr) (cq : Nat), ee = .returned (mt r q Bo k cq true) ∧ Rd w' Bo zs ∧ Below W.heap.size W w') (q1 : 1 ≤ n) (q5 : n ≤ 5) (hK : k = 2 ^ n) (he : en < 0) :
    Calls Try.prog 42 #[C4.circuitV (n : Int) A m c, .int .i64 s, .int .i64 en] w fun ee w' => ee = .returned (dt 0 0 0 0 0 false) ∧ Below w.heap.size w w' := by
  have hk1 : 1 ≤ k := by rw [hK]; exact Nat.one_le_two_pow
  have hk32 : k ≤ 32 := by rw [hK]; exact Nat.pow_le_pow_right (by decide) q5
  have HK := hid hK
  have HQ := hid (C4.inB_f (x := en) (lo := 0) (hi := (k : Int) - 1) (by omega))
  clear hK
  have H1 := hid h1
  clear h1
  go_enter Try.func42, Try.ntmps42
  go_wp2_with (fail)
  refine (H1.out _ (by (repeat' (first | (with_reducible exact Below.refl _ _) | (with_reducible assumption) | (with_reducible refine Below.alloc ?_ ?_ _) | (with_reducible refine Below.drew ?_) | (with_reducible refine below_drewN ?_ _) | (with_reducible refine Below.setCell ?_ ?_ _) | (with_reducible refine chain ?_ (by assumption) ?_) | omega | (simp; done) | (simp; omega))))).mono ?_
  rintro ee w1 ⟨Bo1, cq1, rfl, hR1, hb1⟩
  have Xa1 : Bx w1 (w.heap.size) 45 #[.int .i64 (n : Int), .slice A m c] := by (repeat' (first | (with_reducible assumption) | (refine Bx.new (by first | (with_reducible rfl) | (simp; done))) | (with_reducible refine Bx.alloc ?_ _) | (with_reducible refine Bx.drew ?_) | (with_reducible refine Bx.drewN ?_ _) | (with_reducible refine Bx.mono ?_ (by assumption)) | (with_reducible refine Bx.badly ?_ (by assumption) (by omega)) | (with_reducible refine Bx.far ?_ (by (try simp only [World.size_alloc, World.size_drew]); omega)) | (with_reducible refine Bx.set ?_ rfl) | (with_reducible refine Bx.grown ?_ (by assumption) (by assumption))))
  have Xz1 : Bx w1 (w.heap.size + 1) 59 #[.int .i64 0, .int .i64 0, .int .i64 0, .int .i64 0, .int .i64 0] := by (repeat' (first | (with_reducible assumption) | (refine Bx.new (by first | (with_reducible rfl) | (simp; done))) | (with_reducible refine Bx.alloc ?_ _) | (with_reducible refine Bx.drew ?_) | (with_reducible refine Bx.drewN ?_ _) | (with_reducible refine Bx.mono ?_ (by assumption)) | (with_reducible refine Bx.badly ?_ (by assumption) (by omega)) | (with_reducible refine Bx.far ?_ (by (try simp only [World.size_alloc, World.size_drew]); omega)) | (with_reducible refine Bx.set ?_ rfl) | (with_reducible refine Bx.grown ?_ (by assumption) (by assumption))))
  have hz1 := hb1.size
  (try simp only [World.size_alloc] at hz1)
  have hw1 : Below w.heap.size w w1 := by (repeat' (first | (with_reducible exact Below.refl _ _) | (with_reducible assumption) | (with_reducible refine Below.alloc ?_ ?_ _) | (with_reducible refine Below.drew ?_) | (with_reducible refine below_drewN ?_ _) | (with_reducible refine Below.setCell ?_ ?_ _) | (with_reducible refine chain ?_ (by assumption) ?_) | omega | (simp; done) | (simp; omega)))
  have HR1 := hid hR1
  have a0' := Xa1.c 0 rfl
  have a1' := Xa1.c 1 rfl
  have la := Xa1.lt
  have lz := Xz1.lt
  have fz := Xz1.f
  have z0' := Xz1.c 0 rfl
  have z1' := Xz1.c 1 rfl
  have z2' := Xz1.c 2 rfl
  have z3' := Xz1.c 3 rfl
  have z4' := Xz1.c 4 rfl
  clear hb1 hR1
  go_wp2_with ((go_at_call 97; ((with_reducible refine (C4.lin HQ.out _).mono ?_); rintro ee w3 ⟨rfl, rfl⟩)))
  refine bodyPost_ret (v := dt 0 0 0 0 0 false) (by first | (simp [results, Try.results42, go_sem, *]; done) | (simp (disch := (first | omega | (simp; done) | (simp; omega))) [results, Try.results42, go_sem, *]; done) | (simp only [results, Try.results42]; go_simp; done)) rfl ⟨rfl, ?_⟩
  (repeat' (first | (with_reducible exact Below.refl _ _) | (with_reducible assumption) | (with_reducible refine Below.alloc ?_ ?_ _) | (with_reducible refine Below.drew ?_) | (with_reducible refine below_drewN ?_ _) | (with_reducible refine Below.setCell ?_ ?_ _) | (with_reducible refine chain ?_ (by assumption) ?_) | omega | (simp; done) | (simp; omega)))

set_option maxRecDepth 100000 in
set_option maxHeartbeats 8000000 in
theorem ow_s_h {n : Nat} {s en : Int} {A : Option Addr} {m c : Nat} {r q : Int} {k : Nat} {zs : List D5} {w : World} (h1 : ∀ W : World, Below w.heap.size w W → Calls Try.prog 36 #[C4.circuitV (n : Int) A m c, .int .i64 s] W fun ee w' => ∃ (Bo : Option Addr) (cq : Nat), ee = .returned (mt r q Bo k cq true) ∧ Rd w' Bo zs ∧ Below W.heap.size W w') (q1 : 1 ≤ n) (q5 : n ≤ 5) (hK : k = 2 ^ n) (he0 : 0 ≤ en) (he : (k : Int) ≤ en) :
    Calls Try.prog 42 #[C4.circuitV (n : Int) A m c, .int .i64 s, .int .i64 en] w fun ee w' => ee = .returned (dt 0 0 0 0 0 false) ∧ Below w.heap.size w w' := by
  have hk1 : 1 ≤ k := by rw [hK]; exact Nat.one_le_two_pow
  have hk32 : k ≤ 32 := by rw [hK]; exact Nat.pow_le_pow_right (by decide) q5
  have HK := hid hK
  have HQ := hid (C4.inB_f (x := en) (lo := 0) (hi := (k : Int) - 1) (by omega))
  clear hK
  have H1 := hid h1
  clear h1
  go_enter Try.func42, Try.ntmps42
  go_wp2_with (fail)
  refine (H1.out _ (by (repeat' (first | (with_reducible exact Below.refl _ _) | (with_reducible assumption) | (with_reducible refine Below.alloc ?_ ?_ _) | (with_reducible refine Below.drew ?_) | (with_reducible refine below_drewN ?_ _) | (with_reducible refine Below.setCell ?_ ?_ _) | (with_reducible refine chain ?_ (by assumption) ?_) | omega | (simp; done) | (simp; omega))))).mono ?_
  rintro ee w1 ⟨Bo1, cq1, rfl, hR1, hb1⟩
  have Xa1 : Bx w1 (w.heap.size) 45 #[.int .i64 (n : Int), .slice A m c] := by (repeat' (first | (with_reducible assumption) | (refine Bx.new (by first | (with_reducible rfl) | (simp; done))) | (with_reducible refine Bx.alloc ?_ _) | (with_reducible refine Bx.drew ?_) | (with_reducible refine Bx.drewN ?_ _) | (with_reducible refine Bx.mono ?_ (by assumption)) | (with_reducible refine Bx.badly ?_ (by assumption) (by omega)) | (with_reducible refine Bx.far ?_ (by (try simp only [World.size_alloc, World.size_drew]); omega)) | (with_reducible refine Bx.set ?_ rfl) | (with_reducible refine Bx.grown ?_ (by assumption) (by assumption))))
  have Xz1 : Bx w1 (w.heap.size + 1) 59 #[.int .i64 0, .int .i64 0, .int .i64 0, .int .i64 0, .int .i64 0] := by (repeat' (first | (with_reducible assumption) | (refine Bx.new (by first | (with_reducible rfl) | (simp; done))) | (with_reducible refine Bx.alloc ?_ _) | (with_reducible refine Bx.drew ?_) | (with_reducible refine Bx.drewN ?_ _) | (with_reducible refine Bx.mono ?_ (by assumption)) | (with_reducible refine Bx.badly ?_ (by assumption) (by omega)) | (with_reducible refine Bx.far ?_ (by (try simp only [World.size_alloc, World.size_drew]); omega)) | (with_reducible refine Bx.set ?_ rfl) | (with_reducible refine Bx.grown ?_ (by assumption) (by assumption))))
  have hz1 := hb1.size
  (try simp only [World.size_alloc] at hz1)
  have hw1 : Below w.heap.size w w1 := by (repeat' (first | (with_reducible exact Below.refl _ _) | (with_reducible assumption) | (with_reducible refine Below.alloc ?_ ?_ _) | (with_reducible refine Below.drew ?_) | (with_reducible refine below_drewN ?_ _) | (with_reducible refine Below.setCell ?_ ?_ _) | (with_reducible refine chain ?_ (by assumption) ?_) | omega | (simp; done) | (simp; omega)))
  have HR1 := hid hR1
  have a0' := Xa1.c 0 rfl
  have a1' := Xa1.c 1 rfl
  have la := Xa1.lt
  have lz := Xz1.lt
  have fz := Xz1.f
  have z0' := Xz1.c 0 rfl
  have z1' := Xz1.c 1 rfl
  have z2' := Xz1.c 2 rfl
  have z3' := Xz1.c 3 rfl
  have z4' := Xz1.c 4 rfl
  clear hb1 hR1
  go_wp2_with ((go_at_call 97; ((with_reducible refine (C4.lin HQ.out _).mono ?_); rintro ee w3 ⟨rfl, rfl⟩)))
  refine bodyPost_ret (v := dt 0 0 0 0 0 false) (by first | (simp [results, Try.results42, go_sem, *]; done) | (simp (disch := (first | omega | (simp; done) | (simp; omega))) [results, Try.results42, go_sem, *]; done) | (simp only [results, Try.results42]; go_simp; done)) rfl ⟨rfl, ?_⟩
  (repeat' (first | (with_reducible exact Below.refl _ _) | (with_reducible assumption) | (with_reducible refine Below.alloc ?_ ?_ _) | (with_reducible refine Below.drew ?_) | (with_reducible refine below_drewN ?_ _) | (with_reducible refine Below.setCell ?_ ?_ _) | (with_reducible refine chain ?_ (by assumption) ?_) | omega | (simp; done) | (simp; omega)))

set_option maxRecDepth 100000 in
set_option maxHeartbeats 8000000 in
theorem ow_s_t {n e : Nat} {x : D5} {L M N O E : Int} {ok2 : Bool} {s : Int} {A : Option Addr} {m c : Nat} {r q : Int} {k : Nat} {zs : List D5} {w : World} (h1 : ∀ W : World, Below w.heap.size w W → Calls Try.prog 36 #[C4.circuitV (n : Int) A m c, .int .i64 s] W fun ee w' => ∃ (Bo : Option Addr) (cq : Nat), ee = .returned (mt r q Bo k cq true) ∧ Rd w' Bo zs ∧ Below W.heap.size W w') (q1 : 1 ≤ n) (q5 : n ≤ 5) (hK : k = 2 ^ n) (he : e < k) (hx : zs[e]? = some x) (hN : ∀ W : World, Calls Try.prog 104 #[x.v] W fun ee w' => ee = .returned (dt L M N O E ok2) ∧ Below W.heap.size W w') :
    Calls Try.prog 42 #[C4.circuitV (n : Int) A m c, .int .i64 s, .int .i64 (e : Int)] w fun ee w' => ee = .returned (dt L M N O E ok2) ∧ Below w.heap.size w w' := by
  have hk1 : 1 ≤ k := by rw [hK]; exact Nat.one_le_two_pow
  have hk32 : k ≤ 32 := by rw [hK]; exact Nat.pow_le_pow_right (by decide) q5
  have hek : (e : Int) < (k : Int) := by omega
  have HX := hid hx
  have HN := hid hN
  have HQ := hid (C4.inB_t (x := (e : Int)) (lo := 0) (hi := (k : Int) - 1) (by omega) (by omega))
  clear hK hx hN
  have H1 := hid h1
  clear h1
  go_enter Try.func42, Try.ntmps42
  go_wp2_with (fail)
  refine (H1.out _ (by (repeat' (first | (with_reducible exact Below.refl _ _) | (with_reducible assumption) | (with_reducible refine Below.alloc ?_ ?_ _) | (with_reducible refine Below.drew ?_) | (with_reducible refine below_drewN ?_ _) | (with_reducible refine Below.setCell ?_ ?_ _) | (with_reducible refine chain ?_ (by assumption) ?_) | omega | (simp; done) | (simp; omega))))).mono ?_
  rintro ee w1 ⟨Bo1, cq1, rfl, hR1, hb1⟩
  have Xa1 : Bx w1 (w.heap.size) 45 #[.int .i64 (n : Int), .slice A m c] := by (repeat' (first | (with_reducible assumption) | (refine Bx.new (by first | (with_reducible rfl) | (simp; done))) | (with_reducible refine Bx.alloc ?_ _) | (with_reducible refine Bx.drew ?_) | (with_reducible refine Bx.drewN ?_ _) | (with_reducible refine Bx.mono ?_ (by assumption)) | (with_reducible refine Bx.badly ?_ (by assumption) (by omega)) | (with_reducible refine Bx.far ?_ (by (try simp only [World.size_alloc, World.size_drew]); omega)) | (with_reducible refine Bx.set ?_ rfl) | (with_reducible refine Bx.grown ?_ (by assumption) (by assumption))))
  have Xz1 : Bx w1 (w.heap.size + 1) 59 #[.int .i64 0, .int .i64 0, .int .i64 0, .int .i64 0, .int .i64 0] := by (repeat' (first | (with_reducible assumption) | (refine Bx.new (by first | (with_reducible rfl) | (simp; done))) | (with_reducible refine Bx.alloc ?_ _) | (with_reducible refine Bx.drew ?_) | (with_reducible refine Bx.drewN ?_ _) | (with_reducible refine Bx.mono ?_ (by assumption)) | (with_reducible refine Bx.badly ?_ (by assumption) (by omega)) | (with_reducible refine Bx.far ?_ (by (try simp only [World.size_alloc, World.size_drew]); omega)) | (with_reducible refine Bx.set ?_ rfl) | (with_reducible refine Bx.grown ?_ (by assumption) (by assumption))))
  have hz1 := hb1.size
  (try simp only [World.size_alloc] at hz1)
  have hw1 : Below w.heap.size w w1 := by (repeat' (first | (with_reducible exact Below.refl _ _) | (with_reducible assumption) | (with_reducible refine Below.alloc ?_ ?_ _) | (with_reducible refine Below.drew ?_) | (with_reducible refine below_drewN ?_ _) | (with_reducible refine Below.setCell ?_ ?_ _) | (with_reducible refine chain ?_ (by assumption) ?_) | omega | (simp; done) | (simp; omega)))
  have HR1 := hid hR1
  have a0' := Xa1.c 0 rfl
  have a1' := Xa1.c 1 rfl
  have la := Xa1.lt
  have lz := Xz1.lt
  have fz := Xz1.f
  have z0' := Xz1.c 0 rfl
  have z1' := Xz1.c 1 rfl
  have z2' := Xz1.c 2 rfl
  have z3' := Xz1.c 3 rfl
  have z4' := Xz1.c 4 rfl
  clear hb1 hR1
  obtain ⟨g9, o9, rfl, hC9⟩ := HR1.out e x HX.out
  have HC9 := hid (hC9)
  obtain ⟨p0, p1, p2, p3, p4⟩ := hC9
  have l9 : g9 < w1.heap.size := World.block_lt_of_cell? _ _ p0
  go_wp2_with ((go_at_call 97; ((with_reducible refine (C4.lin HQ.out _).mono ?_); rintro ee w3 ⟨rfl, rfl⟩)))
  refine (HN.out _).mono ?_
  rintro ee w4 ⟨rfl, hb4⟩
  have Y4 := Xz1.mono (show Below w1.heap.size w1 w4 from chain ((Below.refl _ _).alloc (Nat.le_refl _) _) hb4 (by simp))
  have y0 := Y4.c 0 rfl
  have y1 := Y4.c 1 rfl
  have y2 := Y4.c 2 rfl
  have y3 := Y4.c 3 rfl
  have y4 := Y4.c 4 rfl
  have fy := Y4.f
  have ly := Y4.lt
  have hw4 : Below w.heap.size w w4 := by (repeat' (first | (with_reducible exact Below.refl _ _) | (with_reducible assumption) | (with_reducible refine Below.alloc ?_ ?_ _) | (with_reducible refine Below.drew ?_) | (with_reducible refine below_drewN ?_ _) | (with_reducible refine Below.setCell ?_ ?_ _) | (with_reducible refine chain ?_ (by assumption) ?_) | omega | (simp; done) | (simp; omega)))
  go_wp2_with (fail)
  refine bodyPost_ret (v := dt L M N O E ok2) (by first | (simp [results, Try.results42, go_sem, *]; done) | (simp (disch := (first | omega | (simp; done) | (simp; omega))) [results, Try.results42, go_sem, *]; done) | (simp only [results, Try.results42]; go_simp; done)) rfl ⟨rfl, ?_⟩
  (repeat' (first | (with_reducible exact Below.refl _ _) | (with_reducible assumption) | (with_reducible refine Below.alloc ?_ ?_ _) | (with_reducible refine Below.drew ?_) | (with_reducible refine below_drewN ?_ _) | (with_reducible refine Below.setCell ?_ ?_ _) | (with_reducible refine chain ?_ (by assumption) ?_) | omega | (simp; done) | (simp; omega)))

set_option maxRecDepth 100000 in
set_option maxHeartbeats 8000000 in
theorem ow_i_f {a0 s en : Int} {A : Option Addr} {m c : Nat} {r q : Int} {k : Nat} {zs : List D5} {w : World} (h1 : ∀ W : World, Below w.heap.size w W → Calls Try.prog 37 #[C4.circuitV a0 A m c, .int .i64 s] W fun ee w' => ∃ (Bo : Option Addr) (cq : Nat), ee = .returned (mt r q Bo k cq false) ∧ Rd w' Bo zs ∧ Below W.heap.size W w') :
    Calls Try.prog 43 #[C4.circuitV a0 A m c, .int .i64 s, .int .i64 en] w fun ee w' => ee = .returned (dt 0 0 0 0 0 false) ∧ Below w.heap.size w w' := by
  have H1 := hid h1
  clear h1
  go_enter Try.func43, Try.ntmps43
  go_wp2_with (fail)
  refine (H1.out _ (by (repeat' (first | (with_reducible exact Below.refl _ _) | (with_reducible assumption) | (with_reducible refine Below.alloc ?_ ?_ _) | (with_reducible refine Below.drew ?_) | (with_reducible refine below_drewN ?_ _) | (with_reducible refine Below.setCell ?_ ?_ _) | (with_reducible refine chain ?_ (by assumption) ?_) | omega | (simp; done) | (simp; omega))))).mono ?_
  rintro ee w1 ⟨Bo1, cq1, rfl, hR1, hb1⟩
  have Xa1 : Bx w1 (w.heap.size) 45 #[.int .i64 a0, .slice A m c] := by (repeat' (first | (with_reducible assumption) | (refine Bx.new (by first | (with_reducible rfl) | (simp; done))) | (with_reducible refine Bx.alloc ?_ _) | (with_reducible refine Bx.drew ?_) | (with_reducible refine Bx.drewN ?_ _) | (with_reducible refine Bx.mono ?_ (by assumption)) | (with_reducible refine Bx.badly ?_ (by assumption) (by omega)) | (with_reducible refine Bx.far ?_ (by (try simp only [World.size_alloc, World.size_drew]); omega)) | (with_reducible refine Bx.set ?_ rfl) | (with_reducible refine Bx.grown ?_ (by assumption) (by assumption))))
  have Xz1 : Bx w1 (w.heap.size + 1) 59 #[.int .i64 0, .int .i64 0, .int .i64 0, .int .i64 0, .int .i64 0] := by (repeat' (first | (with_reducible assumption) | (refine Bx.new (by first | (with_reducible rfl) | (simp; done))) | (with_reducible refine Bx.alloc ?_ _) | (with_reducible refine Bx.drew ?_) | (with_reducible refine Bx.drewN ?_ _) | (with_reducible refine Bx.mono ?_ (by assumption)) | (with_reducible refine Bx.badly ?_ (by assumption) (by omega)) | (with_reducible refine Bx.far ?_ (by (try simp only [World.size_alloc, World.size_drew]); omega)) | (with_reducible refine Bx.set ?_ rfl) | (with_reducible refine Bx.grown ?_ (by assumption) (by assumption))))
  have hz1 := hb1.size
  (try simp only [World.size_alloc] at hz1)
  have hw1 : Below w.heap.size w w1 := by (repeat' (first | (with_reducible exact Below.refl _ _) | (with_reducible assumption) | (with_reducible refine Below.alloc ?_ ?_ _) | (with_reducible refine Below.drew ?_) | (with_reducible refine below_drewN ?_ _) | (with_reducible refine Below.setCell ?_ ?_ _) | (with_reducible refine chain ?_ (by assumption) ?_) | omega | (simp; done) | (simp; omega)))
  have HR1 := hid hR1
  have a0' := Xa1.c 0 rfl
  have a1' := Xa1.c 1 rfl
  have la := Xa1.lt
  have lz := Xz1.lt
  have fz := Xz1.f
  have z0' := Xz1.c 0 rfl
  have z1' := Xz1.c 1 rfl
  have z2' := Xz1.c 2 rfl
  have z3' := Xz1.c 3 rfl
  have z4' := Xz1.c 4 rfl
  clear hb1 hR1
  go_wp2_with (fail)
  refine bodyPost_ret (v := dt 0 0 0 0 0 false) (by first | (simp [results, Try.results43, go_sem, *]; done) | (simp (disch := (first | omega | (simp; done) | (simp; omega))) [results, Try.results43, go_sem, *]; done) | (simp only [results, Try.results43]; go_simp; done)) rfl ⟨rfl, ?_⟩
  (repeat' (first | (with_reducible exact Below.refl _ _) | (with_reducible assumption) | (with_reducible refine Below.alloc ?_ ?_ _) | (with_reducible refine Below.drew ?_) | (with_reducible refine below_drewN ?_ _) | (with_reducible refine Below.setCell ?_ ?_ _) | (with_reducible refine chain ?_ (by assumption) ?_) | omega | (simp; done) | (simp; omega)))

set_option maxRecDepth 100000 in
set_option maxHeartbeats 8000000 in
theorem ow_i_l {n : Nat} {s en : Int} {A : Option Addr} {m c : Nat} {r q : Int} {k : Nat} {zs : List D5} {w : World} (h1 : ∀ W : World, Below w.heap.size w W → Calls Try.prog 37 #[C4.circuitV (n : Int) A m c, .int .i64 s] W fun ee w' => ∃ (Bo : Option Addr) (cq : Nat), ee = .returned (mt r q Bo k cq true) ∧ Rd w' Bo zs ∧ Below W.heap.size W w') (q1 : 1 ≤ n) (q5 : n ≤ 5) (hK : k = 2 ^ n) (he : en < 0) :
    Calls Try.prog 43 #[C4.circuitV (n : Int) A m c, .int .i64 s, .int .i64 en] w fun ee w' => ee = .returned (dt 0 0 0 0 0 false) ∧ Below w.heap.size w w' := by
  have hk1 : 1 ≤ k := by rw [hK]; exact Nat.one_le_two_pow
  have hk32 : k ≤ 32 := by rw [hK]; exact Nat.pow_le_pow_right (by decide) q5
  have HK := hid hK
  have HI : Hid (∀ W : World, Calls Try.prog 99 #[.int .i64 (n : Int), .int .i64 en] W fun ee w' => ee = .returned (.bool false) ∧ W = w') := fun W => ibs_l q1 q5 (D := k) hK he
  clear hK
  have H1 := hid h1
  clear h1
  go_enter Try.func43, Try.ntmps43
  go_wp2_with (fail)
  refine (H1.out _ (by (repeat' (first | (with_reducible exact Below.refl _ _) | (with_reducible assumption) | (with_reducible refine Below.alloc ?_ ?_ _) | (with_reducible refine Below.drew ?_) | (with_reducible refine below_drewN ?_ _) | (with_reducible refine Below.setCell ?_ ?_ _) | (with_reducible refine chain ?_ (by assumption) ?_) | omega | (simp; done) | (simp; omega))))).mono ?_
  rintro ee w1 ⟨Bo1, cq1, rfl, hR1, hb1⟩
  have Xa1 : Bx w1 (w.heap.size) 45 #[.int .i64 (n : Int), .slice A m c] := by (repeat' (first | (with_reducible assumption) | (refine Bx.new (by first | (with_reducible rfl) | (simp; done))) | (with_reducible refine Bx.alloc ?_ _) | (with_reducible refine Bx.drew ?_) | (with_reducible refine Bx.drewN ?_ _) | (with_reducible refine Bx.mono ?_ (by assumption)) | (with_reducible refine Bx.badly ?_ (by assumption) (by omega)) | (with_reducible refine Bx.far ?_ (by (try simp only [World.size_alloc, World.size_drew]); omega)) | (with_reducible refine Bx.set ?_ rfl) | (with_reducible refine Bx.grown ?_ (by assumption) (by assumption))))
  have Xz1 : Bx w1 (w.heap.size + 1) 59 #[.int .i64 0, .int .i64 0, .int .i64 0, .int .i64 0, .int .i64 0] := by (repeat' (first | (with_reducible assumption) | (refine Bx.new (by first | (with_reducible rfl) | (simp; done))) | (with_reducible refine Bx.alloc ?_ _) | (with_reducible refine Bx.drew ?_) | (with_reducible refine Bx.drewN ?_ _) | (with_reducible refine Bx.mono ?_ (by assumption)) | (with_reducible refine Bx.badly ?_ (by assumption) (by omega)) | (with_reducible refine Bx.far ?_ (by (try simp only [World.size_alloc, World.size_drew]); omega)) | (with_reducible refine Bx.set ?_ rfl) | (with_reducible refine Bx.grown ?_ (by assumption) (by assumption))))
  have hz1 := hb1.size
  (try simp only [World.size_alloc] at hz1)
  have hw1 : Below w.heap.size w w1 := by (repeat' (first | (with_reducible exact Below.refl _ _) | (with_reducible assumption) | (with_reducible refine Below.alloc ?_ ?_ _) | (with_reducible refine Below.drew ?_) | (with_reducible refine below_drewN ?_ _) | (with_reducible refine Below.setCell ?_ ?_ _) | (with_reducible refine chain ?_ (by assumption) ?_) | omega | (simp; done) | (simp; omega)))
  have HR1 := hid hR1
  have a0' := Xa1.c 0 rfl
  have a1' := Xa1.c 1 rfl
  have la := Xa1.lt
  have lz := Xz1.lt
  have fz := Xz1.f
  have z0' := Xz1.c 0 rfl
  have z1' := Xz1.c 1 rfl
  have z2' := Xz1.c 2 rfl
  have z3' := Xz1.c 3 rfl
  have z4' := Xz1.c 4 rfl
  clear hb1 hR1
  go_wp2_with ((go_at_call 99; ((with_reducible refine (HI.out _).mono ?_); rintro ee w3 ⟨rfl, rfl⟩)))
  refine bodyPost_ret (v := dt 0 0 0 0 0 false) (by first | (simp [results, Try.results43, go_sem, *]; done) | (simp (disch := (first | omega | (simp; done) | (simp; omega))) [results, Try.results43, go_sem, *]; done) | (simp only [results, Try.results43]; go_simp; done)) rfl ⟨rfl, ?_⟩
  (repeat' (first | (with_reducible exact Below.refl _ _) | (with_reducible assumption) | (with_reducible refine Below.alloc ?_ ?_ _) | (with_reducible refine Below.drew ?_) | (with_reducible refine below_drewN ?_ _) | (with_reducible refine Below.setCell ?_ ?_ _) | (with_reducible refine chain ?_ (by assumption) ?_) | omega | (simp; done) | (simp; omega)))

set_option maxRecDepth 100000 in
set_option maxHeartbeats 8000000 in
theorem ow_i_h {n : Nat} {s en : Int} {A : Option Addr} {m c : Nat} {r q : Int} {k : Nat} {zs : List D5} {w : World} (h1 : ∀ W : World, Below w.heap.size w W → Calls Try.prog 37 #[C4.circuitV (n : Int) A m c, .int .i64 s] W fun ee w' => ∃ (Bo : Option Addr) (cq : Nat), ee = .returned (mt r q Bo k cq true) ∧ Rd w' Bo zs ∧ Below W.heap.size W w') (q1 : 1 ≤ n) (q5 : n ≤ 5) (hK : k = 2 ^ n) (he0 : 0 ≤ en) (he : (k : Int) ≤ en) :
    Calls Try.prog 43 #[C4.circuitV (n : Int) A m c, .int .i64 s, .int .i64 en] w fun ee w' => ee = .returned (dt 0 0 0 0 0 false) ∧ Below w.heap.size w w' := by
  have hk1 : 1 ≤ k := by rw [hK]; exact Nat.one_le_two_pow
  have hk32 : k ≤ 32 := by rw [hK]; exact Nat.pow_le_pow_right (by decide) q5
  have HK := hid hK
  have HI : Hid (∀ W : World, Calls Try.prog 99 #[.int .i64 (n : Int), .int .i64 en] W fun ee w' => ee = .returned (.bool false) ∧ W = w') := fun W => ibs_h q1 q5 (D := k) hK he0 he
  clear hK
  have H1 := hid h1
  clear h1
  go_enter Try.func43, Try.ntmps43
  go_wp2_with (fail)
  refine (H1.out _ (by (repeat' (first | (with_reducible exact Below.refl _ _) | (with_reducible assumption) | (with_reducible refine Below.alloc ?_ ?_ _) | (with_reducible refine Below.drew ?_) | (with_reducible refine below_drewN ?_ _) | (with_reducible refine Below.setCell ?_ ?_ _) | (with_reducible refine chain ?_ (by assumption) ?_) | omega | (simp; done) | (simp; omega))))).mono ?_
  rintro ee w1 ⟨Bo1, cq1, rfl, hR1, hb1⟩
  have Xa1 : Bx w1 (w.heap.size) 45 #[.int .i64 (n : Int), .slice A m c] := by (repeat' (first | (with_reducible assumption) | (refine Bx.new (by first | (with_reducible rfl) | (simp; done))) | (with_reducible refine Bx.alloc ?_ _) | (with_reducible refine Bx.drew ?_) | (with_reducible refine Bx.drewN ?_ _) | (with_reducible refine Bx.mono ?_ (by assumption)) | (with_reducible refine Bx.badly ?_ (by assumption) (by omega)) | (with_reducible refine Bx.far ?_ (by (try simp only [World.size_alloc, World.size_drew]); omega)) | (with_reducible refine Bx.set ?_ rfl) | (with_reducible refine Bx.grown ?_ (by assumption) (by assumption))))
  have Xz1 : Bx w1 (w.heap.size + 1) 59 #[.int .i64 0, .int .i64 0, .int .i64 0, .int .i64 0, .int .i64 0] := by (repeat' (first | (with_reducible assumption) | (refine Bx.new (by first | (with_reducible rfl) | (simp; done))) | (with_reducible refine Bx.alloc ?_ _) | (with_reducible refine Bx.drew ?_) | (with_reducible refine Bx.drewN ?_ _) | (with_reducible refine Bx.mono ?_ (by assumption)) | (with_reducible refine Bx.badly ?_ (by assumption) (by omega)) | (with_reducible refine Bx.far ?_ (by (try simp only [World.size_alloc, World.size_drew]); omega)) | (with_reducible refine Bx.set ?_ rfl) | (with_reducible refine Bx.grown ?_ (by assumption) (by assumption))))
  have hz1 := hb1.size
  (try simp only [World.size_alloc] at hz1)
  have hw1 : Below w.heap.size w w1 := by (repeat' (first | (with_reducible exact Below.refl _ _) | (with_reducible assumption) | (with_reducible refine Below.alloc ?_ ?_ _) | (with_reducible refine Below.drew ?_) | (with_reducible refine below_drewN ?_ _) | (with_reducible refine Below.setCell ?_ ?_ _) | (with_reducible refine chain ?_ (by assumption) ?_) | omega | (simp; done) | (simp; omega)))
  have HR1 := hid hR1
  have a0' := Xa1.c 0 rfl
  have a1' := Xa1.c 1 rfl
  have la := Xa1.lt
  have lz := Xz1.lt
  have fz := Xz1.f
  have z0' := Xz1.c 0 rfl
  have z1' := Xz1.c 1 rfl
  have z2' := Xz1.c 2 rfl
  have z3' := Xz1.c 3 rfl
  have z4' := Xz1.c 4 rfl
  clear hb1 hR1
  go_wp2_with ((go_at_call 99; ((with_reducible refine (HI.out _).mono ?_); rintro ee w3 ⟨rfl, rfl⟩)))
  refine bodyPost_ret (v := dt 0 0 0 0 0 false) (by first | (simp [results, Try.results43, go_sem, *]; done) | (simp (disch := (first | omega | (simp; done) | (simp; omega))) [results, Try.results43, go_sem, *]; done) | (simp only [results, Try.results43]; go_simp; done)) rfl ⟨rfl, ?_⟩
  (repeat' (first | (with_reducible exact Below.refl _ _) | (with_reducible assumption) | (with_reducible refine Below.alloc ?_ ?_ _) | (with_reducible refine Below.drew ?_) | (with_reducible refine below_drewN ?_ _) | (with_reducible refine Below.setCell ?_ ?_ _) | (with_reducible refine chain ?_ (by assumption) ?_) | omega | (simp; done) | (simp; omega)))

set_option maxRecDepth 100000 in
set_option maxHeartbeats 8000000 in
theorem ow_i_t {n e : Nat} {x : D5} {L M N O E : Int} {ok2 : Bool} {s : Int} {A : Option Addr} {m c : Nat} {r q : Int} {k : Nat} {zs : List D5} {w : World} (h1 : ∀ W : World, Below w.heap.size w W → Calls Try.prog 37 #[C4.circuitV (n : Int) A m c, .int .i64 s] W fun ee w' => ∃ (Bo : Option Addr) (cq : Nat), ee = .returned (mt r q Bo k cq true) ∧ Rd w' Bo zs ∧ Below W.heap.size W w') (q1 : 1 ≤ n) (q5 : n ≤ 5) (hK : k = 2 ^ n) (he : e < k) (hx : zs[e]? = some x) (hN : ∀ W : World, Calls Try.prog 105 #[x.v] W fun ee w' => ee = .returned (dt L M N O E ok2) ∧ Below W.heap.size W w') :
    Calls Try.prog 43 #[C4.circuitV (n : Int) A m c, .int .i64 s, .int .i64 (e : Int)] w fun ee w' => ee = .returned (dt L M N O E ok2) ∧ Below w.heap.size w w' := by
  have hk1 : 1 ≤ k := by rw [hK]; exact Nat.one_le_two_pow
  have hk32 : k ≤ 32 := by rw [hK]; exact Nat.pow_le_pow_right (by decide) q5
  have hek : (e : Int) < (k : Int) := by omega
  have HX := hid hx
  have HN := hid hN
  have HI : Hid (∀ W : World, Calls Try.prog 99 #[.int .i64 (n : Int), .int .i64 (e : Int)] W fun ee w' => ee = .returned (.bool true) ∧ W = w') := fun W => ibs_t q1 q5 (D := k) hK (by omega) hek
  clear hK hx hN
  have H1 := hid h1
  clear h1
  go_enter Try.func43, Try.ntmps43
  go_wp2_with (fail)
  refine (H1.out _ (by (repeat' (first | (with_reducible exact Below.refl _ _) | (with_reducible assumption) | (with_reducible refine Below.alloc ?_ ?_ _) | (with_reducible refine Below.drew ?_) | (with_reducible refine below_drewN ?_ _) | (with_reducible refine Below.setCell ?_ ?_ _) | (with_reducible refine chain ?_ (by assumption) ?_) | omega | (simp; done) | (simp; omega))))).mono ?_
  rintro ee w1 ⟨Bo1, cq1, rfl, hR1, hb1⟩
  have Xa1 : Bx w1 (w.heap.size) 45 #[.int .i64 (n : Int), .slice A m c] := by (repeat' (first | (with_reducible assumption) | (refine Bx.new (by first | (with_reducible rfl) | (simp; done))) | (with_reducible refine Bx.alloc ?_ _) | (with_reducible refine Bx.drew ?_) | (with_reducible refine Bx.drewN ?_ _) | (with_reducible refine Bx.mono ?_ (by assumption)) | (with_reducible refine Bx.badly ?_ (by assumption) (by omega)) | (with_reducible refine Bx.far ?_ (by (try simp only [World.size_alloc, World.size_drew]); omega)) | (with_reducible refine Bx.set ?_ rfl) | (with_reducible refine Bx.grown ?_ (by assumption) (by assumption))))
  have Xz1 : Bx w1 (w.heap.size + 1) 59 #[.int .i64 0, .int .i64 0, .int .i64 0, .int .i64 0, .int .i64 0] := by (repeat' (first | (with_reducible assumption) | (refine Bx.new (by first | (with_reducible rfl) | (simp; done))) | (with_reducible refine Bx.alloc ?_ _) | (with_reducible refine Bx.drew ?_) | (with_reducible refine Bx.drewN ?_ _) | (with_reducible refine Bx.mono ?_ (by assumption)) | (with_reducible refine Bx.badly ?_ (by assumption) (by omega)) | (with_reducible refine Bx.far ?_ (by (try simp only [World.size_alloc, World.size_drew]); omega)) | (with_reducible refine Bx.set ?_ rfl) | (with_reducible refine Bx.grown ?_ (by assumption) (by assumption))))
  have hz1 := hb1.size
  (try simp only [World.size_alloc] at hz1)
  have hw1 : Below w.heap.size w w1 := by (repeat' (first | (with_reducible exact Below.refl _ _) | (with_reducible assumption) | (with_reducible refine Below.alloc ?_ ?_ _) | (with_reducible refine Below.drew ?_) | (with_reducible refine below_drewN ?_ _) | (with_reducible refine Below.setCell ?_ ?_ _) | (with_reducible refine chain ?_ (by assumption) ?_) | omega | (simp; done) | (simp; omega)))
  have HR1 := hid hR1
  have a0' := Xa1.c 0 rfl
  have a1' := Xa1.c 1 rfl
  have la := Xa1.lt
  have lz := Xz1.lt
  have fz := Xz1.f
  have z0' := Xz1.c 0 rfl
  have z1' := Xz1.c 1 rfl
  have z2' := Xz1.c 2 rfl
  have z3' := Xz1.c 3 rfl
  have z4' := Xz1.c 4 rfl
  clear hb1 hR1
  obtain ⟨g9, o9, rfl, hC9⟩ := HR1.out e x HX.out
  have HC9 := hid (hC9)
  obtain ⟨p0, p1, p2, p3, p4⟩ := hC9
  have l9 : g9 < w1.heap.size := World.block_lt_of_cell? _ _ p0
  go_wp2_with ((go_at_call 99; ((with_reducible refine (HI.out _).mono ?_); rintro ee w3 ⟨rfl, rfl⟩)))
  refine (HN.out _).mono ?_
  rintro ee w4 ⟨rfl, hb4⟩
  have Y4 := Xz1.mono (show Below w1.heap.size w1 w4 from chain ((Below.refl _ _).alloc (Nat.le_refl _) _) hb4 (by simp))
  have y0 := Y4.c 0 rfl
  have y1 := Y4.c 1 rfl
  have y2 := Y4.c 2 rfl
  have y3 := Y4.c 3 rfl
  have y4 := Y4.c 4 rfl
  have fy := Y4.f
  have ly := Y4.lt
  have hw4 : Below w.heap.size w w4 := by (repeat' (first | (with_reducible exact Below.refl _ _) | (with_reducible assumption) | (with_reducible refine Below.alloc ?_ ?_ _) | (with_reducible refine Below.drew ?_) | (with_reducible refine below_drewN ?_ _) | (with_reducible refine Below.setCell ?_ ?_ _) | (with_reducible refine chain ?_ (by assumption) ?_) | omega | (simp; done) | (simp; omega)))
  go_wp2_with (fail)
  refine bodyPost_ret (v := dt L M N O E ok2) (by first | (simp [results, Try.results43, go_sem, *]; done) | (simp (disch := (first | omega | (simp; done) | (simp; omega))) [results, Try.results43, go_sem, *]; done) | (simp only [results, Try.results43]; go_simp; done)) rfl ⟨rfl, ?_⟩
  (repeat' (first | (with_reducible exact Below.refl _ _) | (with_reducible assumption) | (with_reducible refine Below.alloc ?_ ?_ _) | (with_reducible refine Below.drew ?_) | (with_reducible refine below_drewN ?_ _) | (with_reducible refine Below.setCell ?_ ?_ _) | (with_reducible refine chain ?_ (by assumption) ?_) | omega | (simp; done) | (simp; omega)))

end Go.Proofs.Ytnjckeadcbfogaa
