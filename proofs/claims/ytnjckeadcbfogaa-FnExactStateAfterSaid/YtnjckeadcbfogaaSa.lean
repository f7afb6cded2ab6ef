/- StateAfter: what both refuse. -/
import Derived.Test.YtnjckeadcbfogaaZp33
import Derived.Test.YtnjckeadcbfogaaZp18
namespace Go.Proofs.Ytnjckeadcbfogaa
open Go.RowKit RM
set_option linter.unusedVariables false
set_option linter.unusedSimpArgs false
attribute [local irreducible] World.setCell

open GM
/-- a basis vector -/
def basL (D s : Nat) : List D5 := tab D (colF D s (tab (D * D) (unitP D D)))
theorem basL_eq {D s : Nat} (hs : s < D) : (List.replicate D z5).set s (omP 0) = basL D s := by
  rw [tab_repl, tab_set hs]
  refine tab_congr (fun q hq => ?_)
  have hlt : q * D + s < D * D := by
    have h1 : q * D + D ≤ D * D := by rw [← Nat.succ_mul]; exact Nat.mul_le_mul_right D hq
    omega
  show _ = (tab (D * D) (unitP D D)).getD (q * D + s) z5
  rw [List.getD_eq_getElem?_getD, tab_get hlt]
  show _ = unitP D D (q * D + s)
  unfold unitP
  by_cases e : q = s
  · subst e
    rw [if_pos rfl, if_pos (anyB_of hq (by simp))]
    rfl
  · rw [if_neg e, if_neg]
    intro h
    obtain ⟨i, hi, h2⟩ := anyB_ex h
    have h3 : q * D + s = i * D + i := of_decide_eq_true h2
    have d1 := divG (Q := D) (i := q) (r := s) hs
    have d2 := divG (Q := D) (i := i) (r := i) hi
    rw [h3] at d1
    exact e (by omega)
theorem basL_len {D s : Nat} : (basL D s).length = D := tab_len _ _
theorem basL_ok {D s : Nat} (hD : dimB (D : Int) = true) : okM (D : Int) ((1 : Nat) : Int) D (basL D s) = true := okM_tab hD (by decide) (Nat.mul_one D).symm (fun q => getD_ok (unit_ok D) _)
/-- a state behind a circuit's gates -/
def stA (n s : Nat) (gs : List C4.GateV) : Option (List D5) := apl n (2 ^ n) 1 gs (basL (2 ^ n) s)

set_option maxRecDepth 100000 in
set_option maxHeartbeats 2000000 in
theorem ibs_t {n D : Nat} {s : Int} {w : World} (hn : 1 ≤ n) (h5 : n ≤ 5) (hD : D = 2 ^ n) (h1 : 0 ≤ s) (h2 : s < (D : Int)) :
    Calls Try.prog 99 #[.int .i64 (n : Int), .int .i64 s] w fun ee w' => ee = .returned (.bool true) ∧ w = w' := by
  obtain ⟨d2, d32, dw, dw2, -⟩ := pow_dim hn h5 hD
  have n5 : (n : Int) ≤ 5 := by omega
  have q1 : decide (0 ≤ s) = true := by simp; omega
  have q2 : decide (s < (D : Int)) = true := by simp; omega
  clear hD
  go_enter Try.func99, Try.ntmps99
  go_wp2_with (fail)
  go_ret
  exact ⟨rfl, rfl⟩

set_option maxRecDepth 100000 in
set_option maxHeartbeats 2000000 in
theorem ibs_l {n D : Nat} {s : Int} {w : World} (hn : 1 ≤ n) (h5 : n ≤ 5) (hD : D = 2 ^ n) (h1 : s < 0) :
    Calls Try.prog 99 #[.int .i64 (n : Int), .int .i64 s] w fun ee w' => ee = .returned (.bool false) ∧ w = w' := by
  obtain ⟨d2, d32, dw, dw2, -⟩ := pow_dim hn h5 hD
  have n5 : (n : Int) ≤ 5 := by omega
  have q1 : decide (0 ≤ s) = false := by simp; omega
  clear hD
  go_enter Try.func99, Try.ntmps99
  go_wp2_with (fail)
  go_ret
  exact ⟨rfl, rfl⟩

set_option maxRecDepth 100000 in
set_option maxHeartbeats 2000000 in
theorem ibs_h {n D : Nat} {s : Int} {w : World} (hn : 1 ≤ n) (h5 : n ≤ 5) (hD : D = 2 ^ n) (h1 : 0 ≤ s) (h2 : (D : Int) ≤ s) :
    Calls Try.prog 99 #[.int .i64 (n : Int), .int .i64 s] w fun ee w' => ee = .returned (.bool false) ∧ w = w' := by
  obtain ⟨d2, d32, dw, dw2, -⟩ := pow_dim hn h5 hD
  have n5 : (n : Int) ≤ 5 := by omega
  have q1 : decide (0 ≤ s) = true := by simp; omega
  have q2 : decide (s < (D : Int)) = false := by simp; omega
  clear hD
  go_enter Try.func99, Try.ntmps99
  go_wp2_with (fail)
  go_ret
  exact ⟨rfl, rfl⟩

set_option maxRecDepth 100000 in
set_option maxHeartbeats 4000000 in
theorem sa_s_f {a0 s : Int} {A : Option Addr} {m c1 : Nat} {gs : List C4.GateV} {w : World} (hA : C4.Rd C4.gateE w A gs) (hm : gs.length = m) (hmx : m ≤ maxLen) (hok : C4.okC a0 m gs = false) :
    Calls Try.prog 36 #[C4.circuitV a0 A m c1, .int .i64 s] w fun ee w' => ee = .returned (mt 0 0 none 0 0 false) ∧ Below w.heap.size w w' := by
  have HA := hid hA
  have HM := hid hm
  have HO := hid hok
  have HX := hid hmx
  clear hA hm hok hmx
  go_enter Try.func36, Try.ntmps36
  go_wp2_with (fail)
  refine (C4.vcs HO.out ?_ HM.out HX.out).mono ?_
  · exact HA.out.mono (by (repeat' (first | (with_reducible exact Below.refl _ _) | (with_reducible assumption) | (with_reducible refine Below.alloc ?_ ?_ _) | (with_reducible refine Below.drew ?_) | (with_reducible refine below_drewN ?_ _) | (with_reducible refine Below.setCell ?_ ?_ _) | (with_reducible refine chain ?_ (by assumption) ?_) | omega | (simp; done) | (simp; omega))))
  rintro ee w1 ⟨rfl, hb1⟩
  obtain ⟨hc1, hf1, _⟩ := bcell hb1; have hz1 := hb1.size; (try simp at hz1); (try have hx10 : w.heap.size < w1.heap.size := (by omega)); (try have hx11 : w.heap.size + 1 < w1.heap.size := (by omega)); (try have hx12 : w.heap.size + 1 + 1 < w1.heap.size := (by omega))
  go_wp2_with (fail)
  refine bodyPost_ret (v := mt 0 0 none 0 0 false) (by first | (simp [results, Try.results36, go_sem, *]; done) | (simp (disch := (first | omega | (simp; done) | (simp; omega))) [results, Try.results36, go_sem, *]; done) | (simp only [results, Try.results36]; go_simp; done)) rfl ⟨rfl, ?_⟩
  (repeat' (first | (with_reducible exact Below.refl _ _) | (with_reducible assumption) | (with_reducible refine Below.alloc ?_ ?_ _) | (with_reducible refine Below.drew ?_) | (with_reducible refine below_drewN ?_ _) | (with_reducible refine Below.setCell ?_ ?_ _) | (with_reducible refine chain ?_ (by assumption) ?_) | omega | (simp; done) | (simp; omega)))

set_option maxRecDepth 100000 in
set_option maxHeartbeats 4000000 in
theorem sa_i_f {a0 s : Int} {A : Option Addr} {m c1 : Nat} {gs : List C4.GateV} {w : World} (hA : C4.Rd C4.gateE w A gs) (hm : gs.length = m) (hmx : m ≤ maxLen) (hok : C4.okC a0 m gs = false) :
    Calls Try.prog 37 #[C4.circuitV a0 A m c1, .int .i64 s] w fun ee w' => ee = .returned (mt 0 0 none 0 0 false) ∧ Below w.heap.size w w' := by
  have HA := hid hA
  have HM := hid hm
  have HO := hid hok
  have HX := hid hmx
  clear hA hm hok hmx
  go_enter Try.func37, Try.ntmps37
  go_wp2_with (fail)
  refine (C4.vci HO.out ?_ HM.out HX.out).mono ?_
  · exact HA.out.mono (by (repeat' (first | (with_reducible exact Below.refl _ _) | (with_reducible assumption) | (with_reducible refine Below.alloc ?_ ?_ _) | (with_reducible refine Below.drew ?_) | (with_reducible refine below_drewN ?_ _) | (with_reducible refine Below.setCell ?_ ?_ _) | (with_reducible refine chain ?_ (by assumption) ?_) | omega | (simp; done) | (simp; omega))))
  rintro ee w1 ⟨rfl, hb1⟩
  obtain ⟨hc1, hf1, _⟩ := bcell hb1; have hz1 := hb1.size; (try simp at hz1); (try have hx10 : w.heap.size < w1.heap.size := (by omega)); (try have hx11 : w.heap.size + 1 < w1.heap.size := (by omega)); (try have hx12 : w.heap.size + 1 + 1 < w1.heap.size := (by omega))
  go_wp2_with (fail)
  refine bodyPost_ret (v := mt 0 0 none 0 0 false) (by first | (simp [results, Try.results37, go_sem, *]; done) | (simp (disch := (first | omega | (simp; done) | (simp; omega))) [results, Try.results37, go_sem, *]; done) | (simp only [results, Try.results37]; go_simp; done)) rfl ⟨rfl, ?_⟩
  (repeat' (first | (with_reducible exact Below.refl _ _) | (with_reducible assumption) | (with_reducible refine Below.alloc ?_ ?_ _) | (with_reducible refine Below.drew ?_) | (with_reducible refine below_drewN ?_ _) | (with_reducible refine Below.setCell ?_ ?_ _) | (with_reducible refine chain ?_ (by assumption) ?_) | omega | (simp; done) | (simp; omega)))

set_option maxRecDepth 100000 in
set_option maxHeartbeats 4000000 in
theorem sa_s_l {s : Int} {n m c1 : Nat} {A : Option Addr} {gs : List C4.GateV} {w : World} (hA : C4.Rd C4.gateE w A gs) (hm : gs.length = m) (hok : C4.okC (n : Int) m gs = true) (hs : s < 0) :
    Calls Try.prog 36 #[C4.circuitV (n : Int) A m c1, .int .i64 s] w fun ee w' => ee = .returned (mt 0 0 none 0 0 false) ∧ Below w.heap.size w w' := by
  obtain ⟨n', hn', h1, h5, hm4, hG⟩ := okC_nat hok
  obtain rfl : n = n' := by omega
  obtain ⟨D, hD⟩ : ∃ D, D = 2 ^ n := ⟨_, rfl⟩
  obtain ⟨d2, d32, dw, dw2, dd⟩ := pow_dim h1 h5 hD
  obtain ⟨NN, hNN⟩ : ∃ NN, NN = D * D := ⟨_, rfl⟩
  have nn5 : NN ≤ 1024 := by rw [hNN]; exact Nat.mul_le_mul d32 d32
  skip
  have hmx : m ≤ maxLen := by unfold maxLen; omega
  have n5 : (n : Int) ≤ 5 := by omega
  have HA := hid hA
  have HM := hid hm
  have HO := hid hok
  have HX := hid hmx
  have EQ := hid hNN
  have DD := hid dd
  have HG := hid hG
  have hs3 : wrap64 ((D : Int) - 1) = (D : Int) - 1 := IntWalk.wrap64_in _ (by clear dw dw2 hD; omega)
  have hs4 : IntKind.i64.wrap ((D : Int) - 1) = (D : Int) - 1 := IntWalk.i64_in _ (by clear dw dw2 hD; omega)
  have hs2 : wrap64 (2 ^ min (IntKind.u64.wrap (n : Int)).toNat 64) = (D : Int) := by
    have hu : IntKind.u64.wrap (n : Int) = (n : Int) := by
      have : n = 1 ∨ n = 2 ∨ n = 3 ∨ n = 4 ∨ n = 5 := by omega
      rcases this with rfl | rfl | rfl | rfl | rfl <;> rfl
    rw [hu, Int.toNat_natCast, Nat.min_eq_left (by omega)]
    exact dw
  have hsh : IntKind.i64.wrap (2 ^ min (IntKind.u64.wrap (n : Int)).toNat 64) = (D : Int) := by
    have hu : IntKind.u64.wrap (n : Int) = (n : Int) := by
      have : n = 1 ∨ n = 2 ∨ n = 3 ∨ n = 4 ∨ n = 5 := by omega
      rcases this with rfl | rfl | rfl | rfl | rfl <;> rfl
    rw [hu, Int.toNat_natCast, Nat.min_eq_left (by omega)]
    exact dw2
  have HD := hid hD
  clear hA hm hok hmx hD hNN dd hG hn'
  go_enter Try.func36, Try.ntmps36
  go_wp2_with (fail)
  refine (C4.vcs HO.out ?_ HM.out HX.out).mono ?_
  · exact HA.out.mono (by (repeat' (first | (with_reducible exact Below.refl _ _) | (with_reducible assumption) | (with_reducible refine Below.alloc ?_ ?_ _) | (with_reducible refine Below.drew ?_) | (with_reducible refine below_drewN ?_ _) | (with_reducible refine Below.setCell ?_ ?_ _) | (with_reducible refine chain ?_ (by assumption) ?_) | omega | (simp; done) | (simp; omega))))
  rintro ee w1 ⟨rfl, hb1⟩
  obtain ⟨hc1, hf1, _⟩ := bcell hb1; have hz1 := hb1.size; (try simp at hz1); (try have hx10 : w.heap.size < w1.heap.size := (by omega)); (try have hx11 : w.heap.size + 1 < w1.heap.size := (by omega)); (try have hx12 : w.heap.size + 1 + 1 < w1.heap.size := (by omega))
  go_wp2_with (fail)
  refine (in_l (lo := 0) hs _).mono ?_
  rintro ee w2 ⟨rfl, rfl⟩
  go_wp2_with (fail)
  refine bodyPost_ret (v := mt 0 0 none 0 0 false) (by first | (simp [results, Try.results36, go_sem, *]; done) | (simp (disch := (first | omega | (simp; done) | (simp; omega))) [results, Try.results36, go_sem, *]; done) | (simp only [results, Try.results36]; go_simp; done)) rfl ⟨rfl, ?_⟩
  (repeat' (first | (with_reducible exact Below.refl _ _) | (with_reducible assumption) | (with_reducible refine Below.alloc ?_ ?_ _) | (with_reducible refine Below.drew ?_) | (with_reducible refine below_drewN ?_ _) | (with_reducible refine Below.setCell ?_ ?_ _) | (with_reducible refine chain ?_ (by assumption) ?_) | omega | (simp; done) | (simp; omega)))

set_option maxRecDepth 100000 in
set_option maxHeartbeats 4000000 in
theorem sa_s_h {s : Int} {n m c1 : Nat} {A : Option Addr} {gs : List C4.GateV} {w : World} (hA : C4.Rd C4.gateE w A gs) (hm : gs.length = m) (hok : C4.okC (n : Int) m gs = true) (hs0 : 0 ≤ s) (hs : ((2 ^ n : Nat) : Int) ≤ s) :
    Calls Try.prog 36 #[C4.circuitV (n : Int) A m c1, .int .i64 s] w fun ee w' => ee = .returned (mt 0 0 none 0 0 false) ∧ Below w.heap.size w w' := by
  obtain ⟨n', hn', h1, h5, hm4, hG⟩ := okC_nat hok
  obtain rfl : n = n' := by omega
  obtain ⟨D, hD⟩ : ∃ D, D = 2 ^ n := ⟨_, rfl⟩
  obtain ⟨d2, d32, dw, dw2, dd⟩ := pow_dim h1 h5 hD
  obtain ⟨NN, hNN⟩ : ∃ NN, NN = D * D := ⟨_, rfl⟩
  have nn5 : NN ≤ 1024 := by rw [hNN]; exact Nat.mul_le_mul d32 d32
  rw [← hD] at hs
  have HS : Hid ((D : Int) - 1 < s) := by show _ < _; clear dw dw2 hD hok; omega
  have hmx : m ≤ maxLen := by unfold maxLen; omega
  have n5 : (n : Int) ≤ 5 := by omega
  have HA := hid hA
  have HM := hid hm
  have HO := hid hok
  have HX := hid hmx
  have EQ := hid hNN
  have DD := hid dd
  have HG := hid hG
  have hs3 : wrap64 ((D : Int) - 1) = (D : Int) - 1 := IntWalk.wrap64_in _ (by clear dw dw2 hD; omega)
  have hs4 : IntKind.i64.wrap ((D : Int) - 1) = (D : Int) - 1 := IntWalk.i64_in _ (by clear dw dw2 hD; omega)
  have hs2 : wrap64 (2 ^ min (IntKind.u64.wrap (n : Int)).toNat 64) = (D : Int) := by
    have hu : IntKind.u64.wrap (n : Int) = (n : Int) := by
      have : n = 1 ∨ n = 2 ∨ n = 3 ∨ n = 4 ∨ n = 5 := by omega
      rcases this with rfl | rfl | rfl | rfl | rfl <;> rfl
    rw [hu, Int.toNat_natCast, Nat.min_eq_left (by omega)]
    exact dw
  have hsh : IntKind.i64.wrap (2 ^ min (IntKind.u64.wrap (n : Int)).toNat 64) = (D : Int) := by
    have hu : IntKind.u64.wrap (n : Int) = (n : Int) := by
      have : n = 1 ∨ n = 2 ∨ n = 3 ∨ n = 4 ∨ n = 5 := by omega
      rcases this with rfl | rfl | rfl | rfl | rfl <;> rfl
    rw [hu, Int.toNat_natCast, Nat.min_eq_left (by omega)]
    exact dw2
  have HD := hid hD
  clear hA hm hok hmx hD hNN dd hG hn'
  go_enter Try.func36, Try.ntmps36
  go_wp2_with (fail)
  refine (C4.vcs HO.out ?_ HM.out HX.out).mono ?_
  · exact HA.out.mono (by (repeat' (first | (with_reducible exact Below.refl _ _) | (with_reducible assumption) | (with_reducible refine Below.alloc ?_ ?_ _) | (with_reducible refine Below.drew ?_) | (with_reducible refine below_drewN ?_ _) | (with_reducible refine Below.setCell ?_ ?_ _) | (with_reducible refine chain ?_ (by assumption) ?_) | omega | (simp; done) | (simp; omega))))
  rintro ee w1 ⟨rfl, hb1⟩
  obtain ⟨hc1, hf1, _⟩ := bcell hb1; have hz1 := hb1.size; (try simp at hz1); (try have hx10 : w.heap.size < w1.heap.size := (by omega)); (try have hx11 : w.heap.size + 1 < w1.heap.size := (by omega)); (try have hx12 : w.heap.size + 1 + 1 < w1.heap.size := (by omega))
  go_wp2_with (fail)
  refine (in_h (lo := 0) (hi := (D : Int) - 1) hs0 HS.out _).mono ?_
  rintro ee w2 ⟨rfl, rfl⟩
  go_wp2_with (fail)
  refine bodyPost_ret (v := mt 0 0 none 0 0 false) (by first | (simp [results, Try.results36, go_sem, *]; done) | (simp (disch := (first | omega | (simp; done) | (simp; omega))) [results, Try.results36, go_sem, *]; done) | (simp only [results, Try.results36]; go_simp; done)) rfl ⟨rfl, ?_⟩
  (repeat' (first | (with_reducible exact Below.refl _ _) | (with_reducible assumption) | (with_reducible refine Below.alloc ?_ ?_ _) | (with_reducible refine Below.drew ?_) | (with_reducible refine below_drewN ?_ _) | (with_reducible refine Below.setCell ?_ ?_ _) | (with_reducible refine chain ?_ (by assumption) ?_) | omega | (simp; done) | (simp; omega)))

set_option maxRecDepth 100000 in
set_option maxHeartbeats 4000000 in
theorem sa_i_l {s : Int} {n m c1 : Nat} {A : Option Addr} {gs : List C4.GateV} {w : World} (hA : C4.Rd C4.gateE w A gs) (hm : gs.length = m) (hok : C4.okC (n : Int) m gs = true) (hs : s < 0) :
    Calls Try.prog 37 #[C4.circuitV (n : Int) A m c1, .int .i64 s] w fun ee w' => ee = .returned (mt 0 0 none 0 0 false) ∧ Below w.heap.size w w' := by
  obtain ⟨n', hn', h1, h5, hm4, hG⟩ := okC_nat hok
  obtain rfl : n = n' := by omega
  obtain ⟨D, hD⟩ : ∃ D, D = 2 ^ n := ⟨_, rfl⟩
  obtain ⟨d2, d32, dw, dw2, dd⟩ := pow_dim h1 h5 hD
  obtain ⟨NN, hNN⟩ : ∃ NN, NN = D * D := ⟨_, rfl⟩
  have nn5 : NN ≤ 1024 := by rw [hNN]; exact Nat.mul_le_mul d32 d32
  skip
  have hmx : m ≤ maxLen := by unfold maxLen; omega
  have n5 : (n : Int) ≤ 5 := by omega
  have HA := hid hA
  have HM := hid hm
  have HO := hid hok
  have HX := hid hmx
  have EQ := hid hNN
  have DD := hid dd
  have HG := hid hG
  have hs3 : wrap64 ((D : Int) - 1) = (D : Int) - 1 := IntWalk.wrap64_in _ (by clear dw dw2 hD; omega)
  have hs4 : IntKind.i64.wrap ((D : Int) - 1) = (D : Int) - 1 := IntWalk.i64_in _ (by clear dw dw2 hD; omega)
  have hs2 : wrap64 (2 ^ min (IntKind.u64.wrap (n : Int)).toNat 64) = (D : Int) := by
    have hu : IntKind.u64.wrap (n : Int) = (n : Int) := by
      have : n = 1 ∨ n = 2 ∨ n = 3 ∨ n = 4 ∨ n = 5 := by omega
      rcases this with rfl | rfl | rfl | rfl | rfl <;> rfl
    rw [hu, Int.toNat_natCast, Nat.min_eq_left (by omega)]
    exact dw
  have hsh : IntKind.i64.wrap (2 ^ min (IntKind.u64.wrap (n : Int)).toNat 64) = (D : Int) := by
    have hu : IntKind.u64.wrap (n : Int) = (n : Int) := by
      have : n = 1 ∨ n = 2 ∨ n = 3 ∨ n = 4 ∨ n = 5 := by omega
      rcases this with rfl | rfl | rfl | rfl | rfl <;> rfl
    rw [hu, Int.toNat_natCast, Nat.min_eq_left (by omega)]
    exact dw2
  have HD := hid hD
  clear hA hm hok hmx hD hNN dd hG hn'
  go_enter Try.func37, Try.ntmps37
  go_wp2_with (fail)
  refine (C4.vci HO.out ?_ HM.out HX.out).mono ?_
  · exact HA.out.mono (by (repeat' (first | (with_reducible exact Below.refl _ _) | (with_reducible assumption) | (with_reducible refine Below.alloc ?_ ?_ _) | (with_reducible refine Below.drew ?_) | (with_reducible refine below_drewN ?_ _) | (with_reducible refine Below.setCell ?_ ?_ _) | (with_reducible refine chain ?_ (by assumption) ?_) | omega | (simp; done) | (simp; omega))))
  rintro ee w1 ⟨rfl, hb1⟩
  obtain ⟨hc1, hf1, _⟩ := bcell hb1; have hz1 := hb1.size; (try simp at hz1); (try have hx10 : w.heap.size < w1.heap.size := (by omega)); (try have hx11 : w.heap.size + 1 < w1.heap.size := (by omega)); (try have hx12 : w.heap.size + 1 + 1 < w1.heap.size := (by omega))
  go_wp2_with (fail)
  refine (ibs_l h1 h5 HD.out hs).mono ?_
  rintro ee w2 ⟨rfl, rfl⟩
  go_wp2_with (fail)
  refine bodyPost_ret (v := mt 0 0 none 0 0 false) (by first | (simp [results, Try.results37, go_sem, *]; done) | (simp (disch := (first | omega | (simp; done) | (simp; omega))) [results, Try.results37, go_sem, *]; done) | (simp only [results, Try.results37]; go_simp; done)) rfl ⟨rfl, ?_⟩
  (repeat' (first | (with_reducible exact Below.refl _ _) | (with_reducible assumption) | (with_reducible refine Below.alloc ?_ ?_ _) | (with_reducible refine Below.drew ?_) | (with_reducible refine below_drewN ?_ _) | (with_reducible refine Below.setCell ?_ ?_ _) | (with_reducible refine chain ?_ (by assumption) ?_) | omega | (simp; done) | (simp; omega)))

set_option maxRecDepth 100000 in
set_option maxHeartbeats 4000000 in
theorem sa_i_h {s : Int} {n m c1 : Nat} {A : Option Addr} {gs : List C4.GateV} {w : World} (hA : C4.Rd C4.gateE w A gs) (hm : gs.length = m) (hok : C4.okC (n : Int) m gs = true) (hs0 : 0 ≤ s) (hs : ((2 ^ n : Nat) : Int) ≤ s) :
    Calls Try.prog 37 #[C4.circuitV (n : Int) A m c1, .int .i64 s] w fun ee w' => ee = .returned (mt 0 0 none 0 0 false) ∧ Below w.heap.size w w' := by
  obtain ⟨n', hn', h1, h5, hm4, hG⟩ := okC_nat hok
  obtain rfl : n = n' := by omega
  obtain ⟨D, hD⟩ : ∃ D, D = 2 ^ n := ⟨_, rfl⟩
  obtain ⟨d2, d32, dw, dw2, dd⟩ := pow_dim h1 h5 hD
  obtain ⟨NN, hNN⟩ : ∃ NN, NN = D * D := ⟨_, rfl⟩
  have nn5 : NN ≤ 1024 := by rw [hNN]; exact Nat.mul_le_mul d32 d32
  rw [← hD] at hs
  have HS : Hid ((D : Int) - 1 < s) := by show _ < _; clear dw dw2 hD hok; omega
  have hmx : m ≤ maxLen := by unfold maxLen; omega
  have n5 : (n : Int) ≤ 5 := by omega
  have HA := hid hA
  have HM := hid hm
  have HO := hid hok
  have HX := hid hmx
  have EQ := hid hNN
  have DD := hid dd
  have HG := hid hG
  have hs3 : wrap64 ((D : Int) - 1) = (D : Int) - 1 := IntWalk.wrap64_in _ (by clear dw dw2 hD; omega)
  have hs4 : IntKind.i64.wrap ((D : Int) - 1) = (D : Int) - 1 := IntWalk.i64_in _ (by clear dw dw2 hD; omega)
  have hs2 : wrap64 (2 ^ min (IntKind.u64.wrap (n : Int)).toNat 64) = (D : Int) := by
    have hu : IntKind.u64.wrap (n : Int) = (n : Int) := by
      have : n = 1 ∨ n = 2 ∨ n = 3 ∨ n = 4 ∨ n = 5 := by omega
      rcases this with rfl | rfl | rfl | rfl | rfl <;> rfl
    rw [hu, Int.toNat_natCast, Nat.min_eq_left (by omega)]
    exact dw
  have hsh : IntKind.i64.wrap (2 ^ min (IntKind.u64.wrap (n : Int)).toNat 64) = (D : Int) := by
    have hu : IntKind.u64.wrap (n : Int) = (n : Int) := by
      have : n = 1 ∨ n = 2 ∨ n = 3 ∨ n = 4 ∨ n = 5 := by omega
      rcases this with rfl | rfl | rfl | rfl | rfl <;> rfl
    rw [hu, Int.toNat_natCast, Nat.min_eq_left (by omega)]
    exact dw2
  have HD := hid hD
  clear hA hm hok hmx hD hNN dd hG hn'
  go_enter Try.func37, Try.ntmps37
  go_wp2_with (fail)
  refine (C4.vci HO.out ?_ HM.out HX.out).mono ?_
  · exact HA.out.mono (by (repeat' (first | (with_reducible exact Below.refl _ _) | (with_reducible assumption) | (with_reducible refine Below.alloc ?_ ?_ _) | (with_reducible refine Below.drew ?_) | (with_reducible refine below_drewN ?_ _) | (with_reducible refine Below.setCell ?_ ?_ _) | (with_reducible refine chain ?_ (by assumption) ?_) | omega | (simp; done) | (simp; omega))))
  rintro ee w1 ⟨rfl, hb1⟩
  obtain ⟨hc1, hf1, _⟩ := bcell hb1; have hz1 := hb1.size; (try simp at hz1); (try have hx10 : w.heap.size < w1.heap.size := (by omega)); (try have hx11 : w.heap.size + 1 < w1.heap.size := (by omega)); (try have hx12 : w.heap.size + 1 + 1 < w1.heap.size := (by omega))
  go_wp2_with (fail)
  refine (ibs_h h1 h5 HD.out hs0 hs).mono ?_
  rintro ee w2 ⟨rfl, rfl⟩
  go_wp2_with (fail)
  refine bodyPost_ret (v := mt 0 0 none 0 0 false) (by first | (simp [results, Try.results37, go_sem, *]; done) | (simp (disch := (first | omega | (simp; done) | (simp; omega))) [results, Try.results37, go_sem, *]; done) | (simp only [results, Try.results37]; go_simp; done)) rfl ⟨rfl, ?_⟩
  (repeat' (first | (with_reducible exact Below.refl _ _) | (with_reducible assumption) | (with_reducible refine Below.alloc ?_ ?_ _) | (with_reducible refine Below.drew ?_) | (with_reducible refine below_drewN ?_ _) | (with_reducible refine Below.setCell ?_ ?_ _) | (with_reducible refine chain ?_ (by assumption) ?_) | omega | (simp; done) | (simp; omega)))

end Go.Proofs.Ytnjckeadcbfogaa
