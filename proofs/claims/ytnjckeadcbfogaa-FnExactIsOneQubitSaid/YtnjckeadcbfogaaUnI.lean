/- IsUnitary: the program. -/
import Derived.Test.YtnjckeadcbfogaaZq34
import Derived.Test.YtnjckeadcbfogaaAdjI
import Derived.Test.YtnjckeadcbfogaaIdn
import Derived.Test.YtnjckeadcbfogaaEq
namespace Go.Proofs.Ytnjckeadcbfogaa
open Go.RowKit RM
set_option linter.unusedVariables false
set_option linter.unusedSimpArgs false
attribute [local irreducible] World.setCell

theorem okM_adj {R C n : Nat} {xs : List D5} (h : okM (R : Int) (C : Int) n xs = true) (hn : xs.length = n) : okM (C : Int) (R : Int) (C * R) (tab (C * R) (adjF R C xs)) = true := by
  obtain ⟨d1, d2, d3, d4⟩ := okM_iff.1 h
  obtain ⟨hnn, h1, h2, h3, h4, h5⟩ := okM_nat2 h
  refine okM_iff.2 ⟨d2, d1, by simp, allB_tab (fun q hq => ?_)⟩
  unfold adjF
  refine conj_ok (all_get d4 (get_of ?_))
  have hq1 : q % R < R := Nat.mod_lt _ (by omega)
  have hq2 : q / R < C := Nat.div_lt_of_lt_mul (by rw [Nat.mul_comm]; exact hq)
  rw [hn, hnn]
  exact idx_lt hq1 hq2
/-- the product with the adjoint -/
def unF (R : Nat) (xs : List D5) : Nat → D5 := mmF R R xs (tab (R * R) (adjF R R xs))
def unG (R : Nat) (xs : List D5) : Nat → Bool := mmG R R xs (tab (R * R) (adjF R R xs))
def unE (R : Nat) (xs : List D5) : Bool := eqM (R : Int) (R : Int) (R : Int) (R : Int) (tab (R * R) (unF R xs)) (tab (R * R) (unitP R R))
set_option maxRecDepth 100000 in
set_option maxHeartbeats 4000000 in
theorem un_i_v {r c : Int} {g0 n cp : Nat} {xs : List D5} {w : World} (hA : Rd w (some ⟨g0, 0, none⟩) xs) (hn : xs.length = n) (hok : okM r c n xs = false) :
    Calls Try.prog 29 #[mv r c (some ⟨g0, 0, none⟩) n cp] w fun ee w' => ee = .returned (.tuple #[.bool false, .bool false]) ∧ Below w.heap.size w w' := by
  have HA := hid hA
  have HN := hid hn
  have HO := hid hok
  clear hA hn hok
  go_enter Try.func29, Try.ntmps29
  go_wp2_with (fail)
  refine (adj_i_f (xs := xs) ?_ HN.out HO.out).mono ?_
  · exact HA.out.mono (by (repeat' (first | (with_reducible exact Below.refl _ _) | (with_reducible assumption) | (with_reducible refine Below.alloc ?_ ?_ _) | (with_reducible refine Below.drew ?_) | (with_reducible refine below_drewN ?_ _) | (with_reducible refine Below.setCell ?_ ?_ _) | (with_reducible refine chain ?_ (by assumption) ?_) | omega | (simp; done) | (simp; omega))))
  rintro ee w1 ⟨rfl, hb1⟩
  have hz1 := hb1.size
  (try simp only [World.size_alloc] at hz1)
  have hB1 : Below w.heap.size w w1 := by (repeat' (first | (with_reducible exact Below.refl _ _) | (with_reducible assumption) | (with_reducible refine Below.alloc ?_ ?_ _) | (with_reducible refine Below.drew ?_) | (with_reducible refine below_drewN ?_ _) | (with_reducible refine Below.setCell ?_ ?_ _) | (with_reducible refine chain ?_ (by assumption) ?_) | omega | (simp; done) | (simp; omega)))
  clear hb1
  go_wp2_with (fail)
  refine bodyPost_ret (v := .tuple #[.bool false, .bool false]) (by first | (simp [results, Try.results29, go_sem, *]; done) | (simp (disch := (first | omega | (simp; done) | (simp; omega))) [results, Try.results29, go_sem, *]; done) | (simp only [results, Try.results29]; go_simp; done)) rfl ⟨rfl, ?_⟩
  (repeat' (first | (with_reducible exact Below.refl _ _) | (with_reducible assumption) | (with_reducible refine Below.alloc ?_ ?_ _) | (with_reducible refine Below.drew ?_) | (with_reducible refine below_drewN ?_ _) | (with_reducible refine Below.setCell ?_ ?_ _) | (with_reducible refine chain ?_ (by assumption) ?_) | omega | (simp; done) | (simp; omega)))

set_option maxRecDepth 100000 in
set_option maxHeartbeats 4000000 in
theorem un_i_c {R C : Nat} {g0 n cp : Nat} {xs : List D5} {w : World} (hA : Rd w (some ⟨g0, 0, none⟩) xs) (hn : xs.length = n) (hok : okM (R : Int) (C : Int) n xs = true) (hcp : n ≤ cp) (hcp2 : cp ≤ 1048576) (hr : R ≠ C) :
    Calls Try.prog 29 #[mv (R : Int) (C : Int) (some ⟨g0, 0, none⟩) n cp] w fun ee w' => ee = .returned (.tuple #[.bool false, .bool false]) ∧ Below w.heap.size w w' := by
  have h1 : ((R : Int) != (C : Int)) = true := by simp; omega
  have HA := hid hA
  have HN := hid hn
  have HO := hid hok
  clear hA hn hok
  go_enter Try.func29, Try.ntmps29
  go_wp2_with (fail)
  refine (adj_i_t (xs := xs) ?_ HN.out HO.out hcp hcp2 rfl).mono ?_
  · exact HA.out.mono (by (repeat' (first | (with_reducible exact Below.refl _ _) | (with_reducible assumption) | (with_reducible refine Below.alloc ?_ ?_ _) | (with_reducible refine Below.drew ?_) | (with_reducible refine below_drewN ?_ _) | (with_reducible refine Below.setCell ?_ ?_ _) | (with_reducible refine chain ?_ (by assumption) ?_) | omega | (simp; done) | (simp; omega))))
  rintro ee w1 ⟨g1, rfl, hk1, hg1, hb1⟩
  have Xa := hid (Bx.mono (b := w.heap.size) (t := 28) (cs := #[.int .i64 (R : Int), .int .i64 (C : Int), .slice (some ⟨g0, 0, none⟩) n cp]) (Bx.new rfl) hb1)
  have hz1 := hb1.size
  (try simp only [World.size_alloc] at hz1)
  have hB1 : Below w.heap.size w w1 := by (repeat' (first | (with_reducible exact Below.refl _ _) | (with_reducible assumption) | (with_reducible refine Below.alloc ?_ ?_ _) | (with_reducible refine Below.drew ?_) | (with_reducible refine below_drewN ?_ _) | (with_reducible refine Below.setCell ?_ ?_ _) | (with_reducible refine chain ?_ (by assumption) ?_) | omega | (simp; done) | (simp; omega)))
  have ca0 := Xa.out.c 0 rfl
  have ca1 := Xa.out.c 1 rfl
  have ca2 := Xa.out.c 2 rfl
  have la := Xa.out.lt
  clear hb1 hk1
  go_wp2_with (fail)
  refine bodyPost_ret (v := .tuple #[.bool false, .bool false]) (by first | (simp [results, Try.results29, go_sem, *]; done) | (simp (disch := (first | omega | (simp; done) | (simp; omega))) [results, Try.results29, go_sem, *]; done) | (simp only [results, Try.results29]; go_simp; done)) rfl ⟨rfl, ?_⟩
  (repeat' (first | (with_reducible exact Below.refl _ _) | (with_reducible assumption) | (with_reducible refine Below.alloc ?_ ?_ _) | (with_reducible refine Below.drew ?_) | (with_reducible refine below_drewN ?_ _) | (with_reducible refine Below.setCell ?_ ?_ _) | (with_reducible refine chain ?_ (by assumption) ?_) | omega | (simp; done) | (simp; omega)))

set_option maxRecDepth 100000 in
set_option maxHeartbeats 8000000 in
theorem un_i_b {R : Nat} {g0 n cp : Nat} {xs : List D5} {w : World} (hA : Rd w (some ⟨g0, 0, none⟩) xs) (hn : xs.length = n) (hok : okM (R : Int) (R : Int) n xs = true) (hcp : n ≤ cp) (hcp2 : cp ≤ 1048576) (hany : anyB (R * R) (unG R xs) = true) :
    Calls Try.prog 29 #[mv (R : Int) (R : Int) (some ⟨g0, 0, none⟩) n cp] w fun ee w' => ee = .returned (.tuple #[.bool false, .bool false]) ∧ Below w.heap.size w w' := by
  obtain ⟨hnn, h1, h2, -, -, h5⟩ := okM_nat2 hok
  have dR := (okM_iff.1 hok).1
  have hadj := okM_adj hok hn
  have HAD := hid hadj
  have DR := hid dR
  have HAN := hid hany
  have rr : R * R ≤ 1024 := by rw [← hnn]; exact h5
  clear hadj dR hany hnn
  have HA := hid hA
  have HN := hid hn
  have HO := hid hok
  clear hA hn hok
  go_enter Try.func29, Try.ntmps29
  go_wp2_with (fail)
  refine (adj_i_t (xs := xs) ?_ HN.out HO.out hcp hcp2 rfl).mono ?_
  · exact HA.out.mono (by (repeat' (first | (with_reducible exact Below.refl _ _) | (with_reducible assumption) | (with_reducible refine Below.alloc ?_ ?_ _) | (with_reducible refine Below.drew ?_) | (with_reducible refine below_drewN ?_ _) | (with_reducible refine Below.setCell ?_ ?_ _) | (with_reducible refine chain ?_ (by assumption) ?_) | omega | (simp; done) | (simp; omega))))
  rintro ee w1 ⟨g1, rfl, hk1, hg1, hb1⟩
  have Xa := hid (Bx.mono (b := w.heap.size) (t := 28) (cs := #[.int .i64 (R : Int), .int .i64 (R : Int), .slice (some ⟨g0, 0, none⟩) n cp]) (Bx.new rfl) hb1)
  have hz1 := hb1.size
  (try simp only [World.size_alloc] at hz1 hg1)
  have hB1 : Below w.heap.size w w1 := by (repeat' (first | (with_reducible exact Below.refl _ _) | (with_reducible assumption) | (with_reducible refine Below.alloc ?_ ?_ _) | (with_reducible refine Below.drew ?_) | (with_reducible refine below_drewN ?_ _) | (with_reducible refine Below.setCell ?_ ?_ _) | (with_reducible refine chain ?_ (by assumption) ?_) | omega | (simp; done) | (simp; omega)))
  have HK1 := hid hk1
  have ca0 := Xa.out.c 0 rfl
  have ca1 := Xa.out.c 1 rfl
  have ca2 := Xa.out.c 2 rfl
  have la := Xa.out.lt
  clear hb1 hk1
  go_wp2_with (fail)
  refine (mu_i_t (xs := xs) (ys := tab (R * R) (adjF R R xs)) (N := R * R) ?_ ?_ HN.out (tab_len _ _) HO.out HAD.out rfl hcp hcp2 (Nat.le_refl _) (by omega)).mono ?_
  · exact HA.out.mono (by (repeat' (first | (with_reducible exact Below.refl _ _) | (with_reducible assumption) | (with_reducible refine Below.alloc ?_ ?_ _) | (with_reducible refine Below.drew ?_) | (with_reducible refine below_drewN ?_ _) | (with_reducible refine Below.setCell ?_ ?_ _) | (with_reducible refine chain ?_ (by assumption) ?_) | omega | (simp; done) | (simp; omega))))
  · exact HK1.out.rd.mono (by (repeat' (first | (with_reducible exact Below.refl _ _) | (with_reducible assumption) | (with_reducible refine Below.alloc ?_ ?_ _) | (with_reducible refine Below.drew ?_) | (with_reducible refine below_drewN ?_ _) | (with_reducible refine Below.setCell ?_ ?_ _) | (with_reducible refine chain ?_ (by assumption) ?_) | omega | (simp; done) | (simp; omega))))
  rintro ee w2 ⟨m1, m2, hb2⟩
  have hz2 := hb2.size
  (try simp only [World.size_alloc] at hz2)
  have hB2 : Below w.heap.size w w2 := by (repeat' (first | (with_reducible exact Below.refl _ _) | (with_reducible assumption) | (with_reducible refine Below.alloc ?_ ?_ _) | (with_reducible refine Below.drew ?_) | (with_reducible refine below_drewN ?_ _) | (with_reducible refine Below.setCell ?_ ?_ _) | (with_reducible refine chain ?_ (by assumption) ?_) | omega | (simp; done) | (simp; omega)))
  have Xa2 := hid (Bx.mono (Bx.alloc Xa.out _) hb2)
  clear Xa ca0 ca1 ca2 la hb2
  have Xa := Xa2
  have ca0 := Xa.out.c 0 rfl
  have ca1 := Xa.out.c 1 rfl
  have ca2 := Xa.out.c 2 rfl
  have la := Xa.out.lt
  clear Xa2
  have hany := HAN.out
  unfold unG at hany
  obtain rfl := m1 hany
  clear m1 m2 hany
  go_wp2_with (fail)
  refine bodyPost_ret (v := .tuple #[.bool false, .bool false]) (by first | (simp [results, Try.results29, go_sem, *]; done) | (simp (disch := (first | omega | (simp; done) | (simp; omega))) [results, Try.results29, go_sem, *]; done) | (simp only [results, Try.results29]; go_simp; done)) rfl ⟨rfl, ?_⟩
  (repeat' (first | (with_reducible exact Below.refl _ _) | (with_reducible assumption) | (with_reducible refine Below.alloc ?_ ?_ _) | (with_reducible refine Below.drew ?_) | (with_reducible refine below_drewN ?_ _) | (with_reducible refine Below.setCell ?_ ?_ _) | (with_reducible refine chain ?_ (by assumption) ?_) | omega | (simp; done) | (simp; omega)))

set_option maxRecDepth 100000 in
set_option maxHeartbeats 8000000 in
theorem un_i_g {R : Nat} {g0 n cp : Nat} {xs : List D5} {w : World} (hA : Rd w (some ⟨g0, 0, none⟩) xs) (hn : xs.length = n) (hok : okM (R : Int) (R : Int) n xs = true) (hcp : n ≤ cp) (hcp2 : cp ≤ 1048576) (hany : anyB (R * R) (unG R xs) = false) :
    Calls Try.prog 29 #[mv (R : Int) (R : Int) (some ⟨g0, 0, none⟩) n cp] w fun ee w' => ee = .returned (.tuple #[.bool (unE R xs), .bool true]) ∧ Below w.heap.size w w' := by
  obtain ⟨hnn, h1, h2, -, -, h5⟩ := okM_nat2 hok
  have dR := (okM_iff.1 hok).1
  have hadj := okM_adj hok hn
  have HAD := hid hadj
  have DR := hid dR
  have HAN := hid hany
  have rr : R * R ≤ 1024 := by rw [← hnn]; exact h5
  clear hadj dR hany hnn
  have HA := hid hA
  have HN := hid hn
  have HO := hid hok
  clear hA hn hok
  go_enter Try.func29, Try.ntmps29
  go_wp2_with (fail)
  refine (adj_i_t (xs := xs) ?_ HN.out HO.out hcp hcp2 rfl).mono ?_
  · exact HA.out.mono (by (repeat' (first | (with_reducible exact Below.refl _ _) | (with_reducible assumption) | (with_reducible refine Below.alloc ?_ ?_ _) | (with_reducible refine Below.drew ?_) | (with_reducible refine below_drewN ?_ _) | (with_reducible refine Below.setCell ?_ ?_ _) | (with_reducible refine chain ?_ (by assumption) ?_) | omega | (simp; done) | (simp; omega))))
  rintro ee w1 ⟨g1, rfl, hk1, hg1, hb1⟩
  have Xa := hid (Bx.mono (b := w.heap.size) (t := 28) (cs := #[.int .i64 (R : Int), .int .i64 (R : Int), .slice (some ⟨g0, 0, none⟩) n cp]) (Bx.new rfl) hb1)
  have hz1 := hb1.size
  (try simp only [World.size_alloc] at hz1 hg1)
  have hB1 : Below w.heap.size w w1 := by (repeat' (first | (with_reducible exact Below.refl _ _) | (with_reducible assumption) | (with_reducible refine Below.alloc ?_ ?_ _) | (with_reducible refine Below.drew ?_) | (with_reducible refine below_drewN ?_ _) | (with_reducible refine Below.setCell ?_ ?_ _) | (with_reducible refine chain ?_ (by assumption) ?_) | omega | (simp; done) | (simp; omega)))
  have HK1 := hid hk1
  have ca0 := Xa.out.c 0 rfl
  have ca1 := Xa.out.c 1 rfl
  have ca2 := Xa.out.c 2 rfl
  have la := Xa.out.lt
  clear hb1 hk1
  go_wp2_with (fail)
  refine (mu_i_t (xs := xs) (ys := tab (R * R) (adjF R R xs)) (N := R * R) ?_ ?_ HN.out (tab_len _ _) HO.out HAD.out rfl hcp hcp2 (Nat.le_refl _) (by omega)).mono ?_
  · exact HA.out.mono (by (repeat' (first | (with_reducible exact Below.refl _ _) | (with_reducible assumption) | (with_reducible refine Below.alloc ?_ ?_ _) | (with_reducible refine Below.drew ?_) | (with_reducible refine below_drewN ?_ _) | (with_reducible refine Below.setCell ?_ ?_ _) | (with_reducible refine chain ?_ (by assumption) ?_) | omega | (simp; done) | (simp; omega))))
  · exact HK1.out.rd.mono (by (repeat' (first | (with_reducible exact Below.refl _ _) | (with_reducible assumption) | (with_reducible refine Below.alloc ?_ ?_ _) | (with_reducible refine Below.drew ?_) | (with_reducible refine below_drewN ?_ _) | (with_reducible refine Below.setCell ?_ ?_ _) | (with_reducible refine chain ?_ (by assumption) ?_) | omega | (simp; done) | (simp; omega))))
  rintro ee w2 ⟨m1, m2, hb2⟩
  have hz2 := hb2.size
  (try simp only [World.size_alloc] at hz2)
  have hB2 : Below w.heap.size w w2 := by (repeat' (first | (with_reducible exact Below.refl _ _) | (with_reducible assumption) | (with_reducible refine Below.alloc ?_ ?_ _) | (with_reducible refine Below.drew ?_) | (with_reducible refine below_drewN ?_ _) | (with_reducible refine Below.setCell ?_ ?_ _) | (with_reducible refine chain ?_ (by assumption) ?_) | omega | (simp; done) | (simp; omega)))
  have Xa2 := hid (Bx.mono (Bx.alloc Xa.out _) hb2)
  clear Xa ca0 ca1 ca2 la hb2
  have Xa := Xa2
  have ca0 := Xa.out.c 0 rfl
  have ca1 := Xa.out.c 1 rfl
  have ca2 := Xa.out.c 2 rfl
  have la := Xa.out.lt
  clear Xa2
  have hany := HAN.out
  unfold unG at hany
  obtain ⟨g2, rfl, hk2, hg2⟩ := m2 hany
  have HK2 := hid hk2
  (try simp only [World.size_alloc] at hg2)
  clear m1 m2 hany hk2
  go_wp2_with (fail)
  refine (id_i_t DR.out rfl h1 h2 rr).mono ?_
  rintro ee w3 ⟨g3, rfl, hk3, hg3, hb3⟩
  have hz3 := hb3.size
  (try simp only [World.size_alloc] at hz3)
  have hB3 : Below w.heap.size w w3 := by (repeat' (first | (with_reducible exact Below.refl _ _) | (with_reducible assumption) | (with_reducible refine Below.alloc ?_ ?_ _) | (with_reducible refine Below.drew ?_) | (with_reducible refine below_drewN ?_ _) | (with_reducible refine Below.setCell ?_ ?_ _) | (with_reducible refine chain ?_ (by assumption) ?_) | omega | (simp; done) | (simp; omega)))
  have HR2 := hid (Rd.mono (Bk.alloc HK2.out _).rd hb3)
  have HK3 := hid hk3
  have XP := hid (Bx.mono (b := w2.heap.size) (t := 28) (cs := #[.int .i64 (R : Int), .int .i64 (R : Int), .slice (some ⟨g2, 0, none⟩) (R * R) (R * R)]) (Bx.new rfl) hb3)
  have cp0 := XP.out.c 0 rfl
  have cp1 := XP.out.c 1 rfl
  have cp2 := XP.out.c 2 rfl
  have lp := XP.out.lt
  clear ca0 ca1 ca2 la Xa HK2 hk3 hb3
  go_wp2_with (fail)
  refine (eqm_i (xs := tab (R * R) (unF R xs)) (ys := tab (R * R) (unitP R R)) ?_ ?_ (tab_len _ _) (tab_len _ _) (by omega) (by omega)).mono ?_
  · exact HR2.out.mono (by (repeat' (first | (with_reducible exact Below.refl _ _) | (with_reducible assumption) | (with_reducible refine Below.alloc ?_ ?_ _) | (with_reducible refine Below.drew ?_) | (with_reducible refine below_drewN ?_ _) | (with_reducible refine Below.setCell ?_ ?_ _) | (with_reducible refine chain ?_ (by assumption) ?_) | omega | (simp; done) | (simp; omega))))
  · exact HK3.out.rd.mono (by (repeat' (first | (with_reducible exact Below.refl _ _) | (with_reducible assumption) | (with_reducible refine Below.alloc ?_ ?_ _) | (with_reducible refine Below.drew ?_) | (with_reducible refine below_drewN ?_ _) | (with_reducible refine Below.setCell ?_ ?_ _) | (with_reducible refine chain ?_ (by assumption) ?_) | omega | (simp; done) | (simp; omega))))
  rintro ee w4 ⟨he, hb4⟩
  obtain rfl : ee = .returned (.bool (unE R xs)) := he
  have hz4 := hb4.size
  (try simp only [World.size_alloc] at hz4)
  have hB4 : Below w.heap.size w w4 := by (repeat' (first | (with_reducible exact Below.refl _ _) | (with_reducible assumption) | (with_reducible refine Below.alloc ?_ ?_ _) | (with_reducible refine Below.drew ?_) | (with_reducible refine below_drewN ?_ _) | (with_reducible refine Below.setCell ?_ ?_ _) | (with_reducible refine chain ?_ (by assumption) ?_) | omega | (simp; done) | (simp; omega)))
  clear hb4
  go_wp2_with (fail)
  refine bodyPost_ret (v := .tuple #[.bool (unE R xs), .bool true]) (by first | (simp [results, Try.results29, go_sem, *]; done) | (simp (disch := (first | omega | (simp; done) | (simp; omega))) [results, Try.results29, go_sem, *]; done) | (simp only [results, Try.results29]; go_simp; done)) rfl ⟨rfl, ?_⟩
  (repeat' (first | (with_reducible exact Below.refl _ _) | (with_reducible assumption) | (with_reducible refine Below.alloc ?_ ?_ _) | (with_reducible refine Below.drew ?_) | (with_reducible refine below_drewN ?_ _) | (with_reducible refine Below.setCell ?_ ?_ _) | (with_reducible refine chain ?_ (by assumption) ?_) | omega | (simp; done) | (simp; omega)))

end Go.Proofs.Ytnjckeadcbfogaa
