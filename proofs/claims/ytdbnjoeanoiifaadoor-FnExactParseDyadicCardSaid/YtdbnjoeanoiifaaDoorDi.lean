/- ParseDyadic: the program. -/
import Derived.Test.YtdbnjoeanoiifaaDoorAp
import Derived.Test.YtdbnjoeanoiifaaDoorOneArg
import Derived.Test.YtdbnjoeanoiifaaDoorDyA
import Derived.Deep.RegionHeld3
import Derived.Deep.DeepCutAuto
namespace Go.Proofs.YtdbnjoeanoiifaaDoor
open Go.RowKit RM
set_option linter.unusedVariables false
set_option linter.unusedSimpArgs false
attribute [local irreducible] World.setCell

theorem by_di {x y : ByteArray} (h : x.data = y.data) : x = y := by
  cases x; cases y; cases h; rfl
set_option maxRecDepth 100000 in
set_option maxHeartbeats 8000000 in
theorem di_0 {s : ByteArray} {w : World} {u v : ByteArray} {k : Bool} {a b c d r : Int} (hC : ∀ W, Calls Tryd.prog 42 #[.string s, .string ⟨#[47]⟩] W fun e w' => e = .returned (.tuple #[.string u, .string v, .bool k]) ∧ Below W.heap.size W w') (hP : ∀ W, Below w.heap.size w W → Calls Tryd.prog 11 #[.string u] W fun e w' => e = .returned (rt a b c d false) ∧ Below W.heap.size W w') :
    Calls Tryd.prog 16 #[.string s] w fun ee w' => ee = .returned (dt 0 0 0 0 0 false) ∧ Below w.heap.size w w' := by
  have HC := lay hC
  have HP := lay hP
  clear hC hP
  go_enter Tryd.func16, Tryd.ntmps16
  go_wp2_with (fail)
  refine (HC.out _).mono ?_
  rintro ee w1 ⟨rfl, hb⟩
  have HX := lay (Bb.mono (b := w.heap.size) (t := 35) (cs := #[.int .i64 0, .int .i64 0, .int .i64 0, .int .i64 0, .int .i64 0]) (Bb.new rfl) hb)
  have HB1 : Hid (Below w.heap.size w w1) := by show Below _ _ _; exact chn ((Below.refl _ _).alloc (Nat.le_refl _) _) hb (by simp)
  have hz1 := hb.size
  (try simp only [World.size_alloc] at hz1)
  clear hb
  go_wp2_with (fail)
  refine (HP.out _ HB1.out).mono ?_
  rintro ee w2 ⟨rfl, hb⟩
  replace HX := lay (HX.out.mono hb)
  replace HB1 := lay (chn HB1.out hb HB1.out.size)
  clear hb
  have r0 := HX.out.c 0 rfl
  have r1 := HX.out.c 1 rfl
  have r2 := HX.out.c 2 rfl
  have r3 := HX.out.c 3 rfl
  have r4 := HX.out.c 4 rfl
  have rf := HX.out.f
  have rl := HX.out.lt
  go_wp2_with (fail)
  refine bodyPost_ret (v := dt 0 0 0 0 0 false) (by first | (simp [results, Tryd.results16, go_sem, *]; done) | (simp (disch := (first | omega | (simp; done) | (simp; omega))) [results, Tryd.results16, go_sem, *]; done) | (simp only [results, Tryd.results16]; go_simp; done)) rfl ⟨rfl, ?_⟩
  have HBo := HB1.out
  (repeat' (first | (with_reducible exact Below.refl _ _) | (with_reducible assumption) | (with_reducible refine Below.alloc ?_ ?_ _) | (with_reducible refine Below.drew ?_) | (with_reducible refine bdN ?_ _) | (with_reducible refine Below.setCell ?_ ?_ _) | (with_reducible refine chn ?_ (by assumption) ?_) | omega | (simp; done) | (simp; omega)))
set_option maxRecDepth 100000 in
set_option maxHeartbeats 8000000 in
theorem di_1 {s : ByteArray} {w : World} {u v : ByteArray} {k : Bool} {a b c d r : Int} (hC : ∀ W, Calls Tryd.prog 42 #[.string s, .string ⟨#[47]⟩] W fun e w' => e = .returned (.tuple #[.string u, .string v, .bool k]) ∧ Below W.heap.size W w') (hP : ∀ W, Below w.heap.size w W → Calls Tryd.prog 11 #[.string u] W fun e w' => e = .returned (rt a b c d true) ∧ Below W.heap.size W w') (hA : ∀ W, Below w.heap.size w W → Calls Tryd.prog 31 #[.string v] W fun e w' => ∃ (n : Int) (t : TypeId) (p : Value), e = .returned (.tuple #[.int .i64 n, .iface t p]) ∧ Below W.heap.size W w') :
    Calls Tryd.prog 16 #[.string s] w fun ee w' => ee = .returned (dt 0 0 0 0 0 false) ∧ Below w.heap.size w w' := by
  have HC := lay hC
  have HP := lay hP
  clear hC hP
  have HA := lay hA
  clear hA
  go_enter Tryd.func16, Tryd.ntmps16
  go_wp2_with (fail)
  refine (HC.out _).mono ?_
  rintro ee w1 ⟨rfl, hb⟩
  have HX := lay (Bb.mono (b := w.heap.size) (t := 35) (cs := #[.int .i64 0, .int .i64 0, .int .i64 0, .int .i64 0, .int .i64 0]) (Bb.new rfl) hb)
  have HB1 : Hid (Below w.heap.size w w1) := by show Below _ _ _; exact chn ((Below.refl _ _).alloc (Nat.le_refl _) _) hb (by simp)
  have hz1 := hb.size
  (try simp only [World.size_alloc] at hz1)
  clear hb
  go_wp2_with (fail)
  refine (HP.out _ HB1.out).mono ?_
  rintro ee w2 ⟨rfl, hb⟩
  replace HX := lay (HX.out.mono hb)
  replace HB1 := lay (chn HB1.out hb HB1.out.size)
  clear hb
  go_wp2_with (fail)
  refine (HA.out _ (HB1.out.alloc (by have := HB1.out.size; omega) _)).mono ?_
  rintro ee w3 ⟨n9, t9, p9, rfl, hb⟩
  have RX := lay (Bb.mono (b := w2.heap.size) (t := 25) (cs := #[.int .i64 a, .int .i64 b, .int .i64 c, .int .i64 d]) (Bb.new rfl) hb)
  replace HX := lay ((HX.out.alloc _).mono hb)
  have hz2 := HB1.out.size
  replace HB1 := lay (chn (HB1.out.alloc (by omega) _) hb (by simp only [World.size_alloc]; omega))
  clear hb
  have r0 := HX.out.c 0 rfl
  have r1 := HX.out.c 1 rfl
  have r2 := HX.out.c 2 rfl
  have r3 := HX.out.c 3 rfl
  have r4 := HX.out.c 4 rfl
  have rf := HX.out.f
  have rl := HX.out.lt
  go_wp2_with (fail)
  refine bodyPost_ret (v := dt 0 0 0 0 0 false) (by first | (simp [results, Tryd.results16, go_sem, *]; done) | (simp (disch := (first | omega | (simp; done) | (simp; omega))) [results, Tryd.results16, go_sem, *]; done) | (simp only [results, Tryd.results16]; go_simp; done)) rfl ⟨rfl, ?_⟩
  have HBo := HB1.out
  (repeat' (first | (with_reducible exact Below.refl _ _) | (with_reducible assumption) | (with_reducible refine Below.alloc ?_ ?_ _) | (with_reducible refine Below.drew ?_) | (with_reducible refine bdN ?_ _) | (with_reducible refine Below.setCell ?_ ?_ _) | (with_reducible refine chn ?_ (by assumption) ?_) | omega | (simp; done) | (simp; omega)))
set_option maxRecDepth 100000 in
set_option maxHeartbeats 8000000 in
theorem di_2 {s : ByteArray} {w : World} {u v : ByteArray} {k : Bool} {a b c d r : Int} (hC : ∀ W, Calls Tryd.prog 42 #[.string s, .string ⟨#[47]⟩] W fun e w' => e = .returned (.tuple #[.string u, .string v, .bool k]) ∧ Below W.heap.size W w') (hP : ∀ W, Below w.heap.size w W → Calls Tryd.prog 11 #[.string u] W fun e w' => e = .returned (rt a b c d true) ∧ Below W.heap.size W w') {T : ByteArray} (hA : ∀ W, Below w.heap.size w W → Calls Tryd.prog 31 #[.string v] W fun e w' => e = .returned (.tuple #[.int .i64 r, .nilIface]) ∧ Below W.heap.size W w') (hF : ∀ W, Below w.heap.size w W → Calls Tryd.prog 43 #[dy a b c d r] W fun e w' => e = .returned (.tuple #[.string T, .bool false]) ∧ Below W.heap.size W w') :
    Calls Tryd.prog 16 #[.string s] w fun ee w' => ee = .returned (dt 0 0 0 0 0 false) ∧ Below w.heap.size w w' := by
  have HC := lay hC
  have HP := lay hP
  clear hC hP
  have HA := lay hA
  have HF := lay hF
  clear hA hF
  go_enter Tryd.func16, Tryd.ntmps16
  go_wp2_with (fail)
  refine (HC.out _).mono ?_
  rintro ee w1 ⟨rfl, hb⟩
  have HX := lay (Bb.mono (b := w.heap.size) (t := 35) (cs := #[.int .i64 0, .int .i64 0, .int .i64 0, .int .i64 0, .int .i64 0]) (Bb.new rfl) hb)
  have HB1 : Hid (Below w.heap.size w w1) := by show Below _ _ _; exact chn ((Below.refl _ _).alloc (Nat.le_refl _) _) hb (by simp)
  have hz1 := hb.size
  (try simp only [World.size_alloc] at hz1)
  clear hb
  go_wp2_with (fail)
  refine (HP.out _ HB1.out).mono ?_
  rintro ee w2 ⟨rfl, hb⟩
  replace HX := lay (HX.out.mono hb)
  replace HB1 := lay (chn HB1.out hb HB1.out.size)
  clear hb
  go_wp2_with (fail)
  refine (HA.out _ (HB1.out.alloc (by have := HB1.out.size; omega) _)).mono ?_
  rintro ee w3 ⟨rfl, hb⟩
  have RX := lay (Bb.mono (b := w2.heap.size) (t := 25) (cs := #[.int .i64 a, .int .i64 b, .int .i64 c, .int .i64 d]) (Bb.new rfl) hb)
  replace HX := lay ((HX.out.alloc _).mono hb)
  have hz2 := HB1.out.size
  replace HB1 := lay (chn (HB1.out.alloc (by omega) _) hb (by simp only [World.size_alloc]; omega))
  clear hb
  have k0 := RX.out.c 0 rfl
  have k1 := RX.out.c 1 rfl
  have k2 := RX.out.c 2 rfl
  have k3 := RX.out.c 3 rfl
  have kl := RX.out.lt
  go_wp2_with (fail)
  refine (HF.out _ (HB1.out.alloc (by have := HB1.out.size; omega) _)).mono ?_
  rintro ee w4 ⟨rfl, hb⟩
  have D5 := lay (Bb.mono (b := w3.heap.size) (t := 35) (cs := #[.int .i64 a, .int .i64 b, .int .i64 c, .int .i64 d, .int .i64 r]) (Bb.new rfl) hb)
  replace HX := lay ((HX.out.alloc _).mono hb)
  have hz3 := HB1.out.size
  replace HB1 := lay (chn (HB1.out.alloc (by omega) _) hb (by simp only [World.size_alloc]; omega))
  clear hb RX k0 k1 k2 k3 kl
  have q0 := D5.out.c 0 rfl
  have q1 := D5.out.c 1 rfl
  have q2 := D5.out.c 2 rfl
  have q3 := D5.out.c 3 rfl
  have q4 := D5.out.c 4 rfl
  have ql := D5.out.lt
  have r0 := HX.out.c 0 rfl
  have r1 := HX.out.c 1 rfl
  have r2 := HX.out.c 2 rfl
  have r3 := HX.out.c 3 rfl
  have r4 := HX.out.c 4 rfl
  have rf := HX.out.f
  have rl := HX.out.lt
  go_wp2_with (fail)
  refine bodyPost_ret (v := dt 0 0 0 0 0 false) (by first | (simp [results, Tryd.results16, go_sem, *]; done) | (simp (disch := (first | omega | (simp; done) | (simp; omega))) [results, Tryd.results16, go_sem, *]; done) | (simp only [results, Tryd.results16]; go_simp; done)) rfl ⟨rfl, ?_⟩
  have HBo := HB1.out
  (repeat' (first | (with_reducible exact Below.refl _ _) | (with_reducible assumption) | (with_reducible refine Below.alloc ?_ ?_ _) | (with_reducible refine Below.drew ?_) | (with_reducible refine bdN ?_ _) | (with_reducible refine Below.setCell ?_ ?_ _) | (with_reducible refine chn ?_ (by assumption) ?_) | omega | (simp; done) | (simp; omega)))
set_option maxRecDepth 100000 in
set_option maxHeartbeats 8000000 in
theorem di_3 {s : ByteArray} {w : World} {u v : ByteArray} {k : Bool} {a b c d r : Int} (hC : ∀ W, Calls Tryd.prog 42 #[.string s, .string ⟨#[47]⟩] W fun e w' => e = .returned (.tuple #[.string u, .string v, .bool k]) ∧ Below W.heap.size W w') (hP : ∀ W, Below w.heap.size w W → Calls Tryd.prog 11 #[.string u] W fun e w' => e = .returned (rt a b c d true) ∧ Below W.heap.size W w') {T : ByteArray} (hA : ∀ W, Below w.heap.size w W → Calls Tryd.prog 31 #[.string v] W fun e w' => e = .returned (.tuple #[.int .i64 r, .nilIface]) ∧ Below W.heap.size W w') (hF : ∀ W, Below w.heap.size w W → Calls Tryd.prog 43 #[dy a b c d r] W fun e w' => e = .returned (.tuple #[.string T, .bool true]) ∧ Below W.heap.size W w') (hne : T ≠ s) :
    Calls Tryd.prog 16 #[.string s] w fun ee w' => ee = .returned (dt 0 0 0 0 0 false) ∧ Below w.heap.size w w' := by
  have HC := lay hC
  have HP := lay hP
  clear hC hP
  have HA := lay hA
  have HF := lay hF
  clear hA hF
  have n1 : (T.toList == s.toList) = false := by
    rw [ByteArray.toList_eq, ByteArray.toList_eq]
    exact beq_eq_false_iff_ne.2 (fun h => hne (by_di (Array.toList_inj.1 h)))
  go_enter Tryd.func16, Tryd.ntmps16
  go_wp2_with (fail)
  refine (HC.out _).mono ?_
  rintro ee w1 ⟨rfl, hb⟩
  have HX := lay (Bb.mono (b := w.heap.size) (t := 35) (cs := #[.int .i64 0, .int .i64 0, .int .i64 0, .int .i64 0, .int .i64 0]) (Bb.new rfl) hb)
  have HB1 : Hid (Below w.heap.size w w1) := by show Below _ _ _; exact chn ((Below.refl _ _).alloc (Nat.le_refl _) _) hb (by simp)
  have hz1 := hb.size
  (try simp only [World.size_alloc] at hz1)
  clear hb
  go_wp2_with (fail)
  refine (HP.out _ HB1.out).mono ?_
  rintro ee w2 ⟨rfl, hb⟩
  replace HX := lay (HX.out.mono hb)
  replace HB1 := lay (chn HB1.out hb HB1.out.size)
  clear hb
  go_wp2_with (fail)
  refine (HA.out _ (HB1.out.alloc (by have := HB1.out.size; omega) _)).mono ?_
  rintro ee w3 ⟨rfl, hb⟩
  have RX := lay (Bb.mono (b := w2.heap.size) (t := 25) (cs := #[.int .i64 a, .int .i64 b, .int .i64 c, .int .i64 d]) (Bb.new rfl) hb)
  replace HX := lay ((HX.out.alloc _).mono hb)
  have hz2 := HB1.out.size
  replace HB1 := lay (chn (HB1.out.alloc (by omega) _) hb (by simp only [World.size_alloc]; omega))
  clear hb
  have k0 := RX.out.c 0 rfl
  have k1 := RX.out.c 1 rfl
  have k2 := RX.out.c 2 rfl
  have k3 := RX.out.c 3 rfl
  have kl := RX.out.lt
  go_wp2_with (fail)
  refine (HF.out _ (HB1.out.alloc (by have := HB1.out.size; omega) _)).mono ?_
  rintro ee w4 ⟨rfl, hb⟩
  have D5 := lay (Bb.mono (b := w3.heap.size) (t := 35) (cs := #[.int .i64 a, .int .i64 b, .int .i64 c, .int .i64 d, .int .i64 r]) (Bb.new rfl) hb)
  replace HX := lay ((HX.out.alloc _).mono hb)
  have hz3 := HB1.out.size
  replace HB1 := lay (chn (HB1.out.alloc (by omega) _) hb (by simp only [World.size_alloc]; omega))
  clear hb RX k0 k1 k2 k3 kl
  have q0 := D5.out.c 0 rfl
  have q1 := D5.out.c 1 rfl
  have q2 := D5.out.c 2 rfl
  have q3 := D5.out.c 3 rfl
  have q4 := D5.out.c 4 rfl
  have ql := D5.out.lt
  have r0 := HX.out.c 0 rfl
  have r1 := HX.out.c 1 rfl
  have r2 := HX.out.c 2 rfl
  have r3 := HX.out.c 3 rfl
  have r4 := HX.out.c 4 rfl
  have rf := HX.out.f
  have rl := HX.out.lt
  go_wp2_with (fail)
  refine bodyPost_ret (v := dt 0 0 0 0 0 false) (by first | (simp [results, Tryd.results16, go_sem, *]; done) | (simp (disch := (first | omega | (simp; done) | (simp; omega))) [results, Tryd.results16, go_sem, *]; done) | (simp only [results, Tryd.results16]; go_simp; done)) rfl ⟨rfl, ?_⟩
  have HBo := HB1.out
  (repeat' (first | (with_reducible exact Below.refl _ _) | (with_reducible assumption) | (with_reducible refine Below.alloc ?_ ?_ _) | (with_reducible refine Below.drew ?_) | (with_reducible refine bdN ?_ _) | (with_reducible refine Below.setCell ?_ ?_ _) | (with_reducible refine chn ?_ (by assumption) ?_) | omega | (simp; done) | (simp; omega)))
set_option maxRecDepth 100000 in
set_option maxHeartbeats 8000000 in
theorem di_4 {s : ByteArray} {w : World} {u v : ByteArray} {k : Bool} {a b c d r : Int} (hC : ∀ W, Calls Tryd.prog 42 #[.string s, .string ⟨#[47]⟩] W fun e w' => e = .returned (.tuple #[.string u, .string v, .bool k]) ∧ Below W.heap.size W w') (hP : ∀ W, Below w.heap.size w W → Calls Tryd.prog 11 #[.string u] W fun e w' => e = .returned (rt a b c d true) ∧ Below W.heap.size W w') {T : ByteArray} (hA : ∀ W, Below w.heap.size w W → Calls Tryd.prog 31 #[.string v] W fun e w' => e = .returned (.tuple #[.int .i64 r, .nilIface]) ∧ Below W.heap.size W w') (hF : ∀ W, Below w.heap.size w W → Calls Tryd.prog 43 #[dy a b c d r] W fun e w' => e = .returned (.tuple #[.string s, .bool true]) ∧ Below W.heap.size W w') :
    Calls Tryd.prog 16 #[.string s] w fun ee w' => ee = .returned (dt a b c d r true) ∧ Below w.heap.size w w' := by
  have HC := lay hC
  have HP := lay hP
  clear hC hP
  have HA := lay hA
  have HF := lay hF
  clear hA hF
  go_enter Tryd.func16, Tryd.ntmps16
  go_wp2_with (fail)
  refine (HC.out _).mono ?_
  rintro ee w1 ⟨rfl, hb⟩
  have HX := lay (Bb.mono (b := w.heap.size) (t := 35) (cs := #[.int .i64 0, .int .i64 0, .int .i64 0, .int .i64 0, .int .i64 0]) (Bb.new rfl) hb)
  have HB1 : Hid (Below w.heap.size w w1) := by show Below _ _ _; exact chn ((Below.refl _ _).alloc (Nat.le_refl _) _) hb (by simp)
  have hz1 := hb.size
  (try simp only [World.size_alloc] at hz1)
  clear hb
  go_wp2_with (fail)
  refine (HP.out _ HB1.out).mono ?_
  rintro ee w2 ⟨rfl, hb⟩
  replace HX := lay (HX.out.mono hb)
  replace HB1 := lay (chn HB1.out hb HB1.out.size)
  clear hb
  go_wp2_with (fail)
  refine (HA.out _ (HB1.out.alloc (by have := HB1.out.size; omega) _)).mono ?_
  rintro ee w3 ⟨rfl, hb⟩
  have RX := lay (Bb.mono (b := w2.heap.size) (t := 25) (cs := #[.int .i64 a, .int .i64 b, .int .i64 c, .int .i64 d]) (Bb.new rfl) hb)
  replace HX := lay ((HX.out.alloc _).mono hb)
  have hz2 := HB1.out.size
  replace HB1 := lay (chn (HB1.out.alloc (by omega) _) hb (by simp only [World.size_alloc]; omega))
  clear hb
  have k0 := RX.out.c 0 rfl
  have k1 := RX.out.c 1 rfl
  have k2 := RX.out.c 2 rfl
  have k3 := RX.out.c 3 rfl
  have kl := RX.out.lt
  go_wp2_with (fail)
  refine (HF.out _ (HB1.out.alloc (by have := HB1.out.size; omega) _)).mono ?_
  rintro ee w4 ⟨rfl, hb⟩
  have D5 := lay (Bb.mono (b := w3.heap.size) (t := 35) (cs := #[.int .i64 a, .int .i64 b, .int .i64 c, .int .i64 d, .int .i64 r]) (Bb.new rfl) hb)
  replace HX := lay ((HX.out.alloc _).mono hb)
  have hz3 := HB1.out.size
  replace HB1 := lay (chn (HB1.out.alloc (by omega) _) hb (by simp only [World.size_alloc]; omega))
  clear hb RX k0 k1 k2 k3 kl
  have q0 := D5.out.c 0 rfl
  have q1 := D5.out.c 1 rfl
  have q2 := D5.out.c 2 rfl
  have q3 := D5.out.c 3 rfl
  have q4 := D5.out.c 4 rfl
  have ql := D5.out.lt
  have r0 := HX.out.c 0 rfl
  have r1 := HX.out.c 1 rfl
  have r2 := HX.out.c 2 rfl
  have r3 := HX.out.c 3 rfl
  have r4 := HX.out.c 4 rfl
  have rf := HX.out.f
  have rl := HX.out.lt
  go_wp2_with (fail)
  refine bodyPost_ret (v := dt a b c d r true) (by first | (simp [results, Tryd.results16, go_sem, *]; done) | (simp (disch := (first | omega | (simp; done) | (simp; omega))) [results, Tryd.results16, go_sem, *]; done) | (simp only [results, Tryd.results16]; go_simp; done)) rfl ⟨rfl, ?_⟩
  have HBo := HB1.out
  (repeat' (first | (with_reducible exact Below.refl _ _) | (with_reducible assumption) | (with_reducible refine Below.alloc ?_ ?_ _) | (with_reducible refine Below.drew ?_) | (with_reducible refine bdN ?_ _) | (with_reducible refine Below.setCell ?_ ?_ _) | (with_reducible refine chn ?_ (by assumption) ?_) | omega | (simp; done) | (simp; omega)))
end Go.Proofs.YtdbnjoeanoiifaaDoor
