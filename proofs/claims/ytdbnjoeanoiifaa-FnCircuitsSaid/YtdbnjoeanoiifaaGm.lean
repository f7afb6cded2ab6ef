/- The program's Inverse. -/
import Derived.Test.YtdbnjoeanoiifaaGn
namespace Go.Proofs.Ytdbnjoeanoiifaa
open Go.RowKit
set_option linter.unusedVariables false
set_option linter.unusedSimpArgs false
attribute [local irreducible] World.setCell

/-- a circuit of the call's own is the answer -/
def OkC (q : Int) (L : List GateV) (w : World) (ee : Ending) (w' : World) : Prop := ∃ (B : Option Addr) (cq : Nat), ee = .returned (.tuple #[circuitV q B L.length cq, .bool true]) ∧ Ow gateE w' w.heap.size 81 B L ∧ Below w.heap.size w w'
theorem OkC.i {q : Int} {L : List GateV} {w w' : World} {ee : Ending} {B : Option Addr} {k cq : Nat} (hk : L.length = k) (he : ee = .returned (.tuple #[circuitV q B k cq, .bool true])) (hO : Ow gateE w' w.heap.size 81 B L) (hb : Below w.heap.size w w') : OkC q L w ee w' := ⟨B, cq, by rw [hk]; exact he, hO, hb⟩
set_option maxRecDepth 100000 in
set_option maxHeartbeats 4000000 in
theorem iInverse_f {a0 : Int} {A1 : Option Addr} {n1 c1 : Nat} {xs : List GateV} {w : World} (hA : Rd gateE w A1 xs) (hn : xs.length = n1) (hm : n1 ≤ maxLen) (hok : okC a0 n1 xs = false) :
    Calls Try.prog 22 #[circuitV a0 A1 n1 c1] w fun ee w' => ee = .returned (.tuple #[circuitV 0 none 0 0, .bool false]) ∧ Below w.heap.size w w' := by
  have HA := lay hA
  have HN := lay hn
  have HO := lay hok
  clear hA hn hok
  go_enter Try.func22, Try.ntmps22
  go_wp2_with (fail)
  refine (vci (xs := xs) HO.out ?_ HN.out hm).mono ?_
  · exact HA.out.mono (by (repeat' (first | (with_reducible exact Below.refl _ _) | (with_reducible assumption) | (with_reducible refine Below.alloc ?_ ?_ _) | (with_reducible refine Below.drew ?_) | (with_reducible refine bdN ?_ _) | (with_reducible refine Below.setCell ?_ ?_ _) | (with_reducible refine chn ?_ (by assumption) ?_) | omega | (simp; done) | (simp; omega))))
  rintro ee w1 ⟨rfl, hb1⟩
  obtain ⟨hc1, hf1, _⟩ := bcl hb1; have hz1 := hb1.size; (try simp at hz1); (try have hx10 : w.heap.size < w1.heap.size := (by omega)); (try have hx11 : w.heap.size + 1 < w1.heap.size := (by omega)); (try have hx12 : w.heap.size + 1 + 1 < w1.heap.size := (by omega)); (try have hx13 : w.heap.size + 1 + 1 + 1 < w1.heap.size := (by omega))
  go_wp2_with (fail)
  refine bodyPost_ret (v := .tuple #[circuitV 0 none 0 0, .bool false]) (by first | (simp [results, Try.results22, go_sem, *]; done) | (simp (disch := (first | omega | (simp; done) | (simp; omega))) [results, Try.results22, go_sem, *]; done) | (simp only [results, Try.results22]; go_simp; done)) rfl ⟨rfl, ?_⟩
  (repeat' (first | (with_reducible exact Below.refl _ _) | (with_reducible assumption) | (with_reducible refine Below.alloc ?_ ?_ _) | (with_reducible refine Below.drew ?_) | (with_reducible refine bdN ?_ _) | (with_reducible refine Below.setCell ?_ ?_ _) | (with_reducible refine chn ?_ (by assumption) ?_) | omega | (simp; done) | (simp; omega)))

theorem gB_5 {q : Int} {g : GateV} (h : gB q g = true) (hq : q ≤ 5) : gB 5 g = true := by
  unfold gB at *
  split at h
  · rename_i hk; rw [if_pos hk]; simp only [decide_eq_true_eq] at *; omega
  · rename_i hk; rw [if_neg hk]
    split at h
    · rename_i hk2; rw [if_pos hk2]; simp only [decide_eq_true_eq] at *; omega
    · rename_i hk2; rw [if_neg hk2]; exact h
theorem iig_v {g y : GateV} {n : Nat} (hy : bkG g = y) (hn : bkN g = n) (hg : gB 5 g = true) (w : World) :
    Calls Try.prog 56 #[g.v] w fun ee w' => ee = .returned (.tuple #[y.v, .int .i64 (n : Int), .bool true]) ∧ Below w.heap.size w w' := by
  subst hy hn
  exact iig_t hg w
set_option maxRecDepth 100000 in
set_option maxHeartbeats 8000000 in
theorem iInverse_o {a0 : Int} {A1 : Option Addr} {n1 c1 : Nat} {xs : List GateV} {w : World} (hA : Rd gateE w A1 xs) (hn : xs.length = n1) (hm : n1 ≤ maxLen) (hok : okC a0 n1 xs = true) (hl : n1 ≤ 400) (hi : 400 < (invL xs).length) :
    Calls Try.prog 22 #[circuitV a0 A1 n1 c1] w fun ee w' => ee = .returned (.tuple #[circuitV 0 none 0 0, .bool false]) ∧ Below w.heap.size w w' := by
  obtain ⟨i0, hi0, hz0, hz1, hz2⟩ := info_parts infoGate
  have HA := lay hA
  have HN := lay hn
  have HO9 := lay hok
  clear hA hn hok
  go_enter Try.func22, Try.ntmps22
  go_wp2_with (fail)
  refine (vci (xs := xs) HO9.out ?_ HN.out hm).mono ?_
  · exact HA.out.mono (by (repeat' (first | (with_reducible exact Below.refl _ _) | (with_reducible assumption) | (with_reducible refine Below.alloc ?_ ?_ _) | (with_reducible refine Below.drew ?_) | (with_reducible refine bdN ?_ _) | (with_reducible refine Below.setCell ?_ ?_ _) | (with_reducible refine chn ?_ (by assumption) ?_) | omega | (simp; done) | (simp; omega))))
  rintro ee w1 ⟨rfl, hb1⟩
  have hz1' := hb1.size
  simp only [World.size_alloc] at hz1'
  have Ya : Hid (Bb w1 w.heap.size 42 #[.int .i64 a0, .slice A1 n1 c1]) := by show Bb _ _ _ _; (repeat' (first | (with_reducible assumption) | (refine Bb.new (by first | (with_reducible rfl) | (simp; done))) | (with_reducible refine Bb.alloc ?_ _) | (with_reducible refine Bb.drew ?_) | (with_reducible refine Bb.drewN ?_ _) | (with_reducible refine Bb.mono ?_ (by assumption)) | (with_reducible refine Bb.far ?_ (by (try simp only [World.size_alloc, World.size_drew]); omega)) | (with_reducible refine Bb.set ?_ rfl) | (with_reducible refine Bb.grown ?_ (by assumption) (by assumption))))
  have Yz : Hid (Bb w1 (w.heap.size + 1) 42 #[.int .i64 0, .slice none 0 0]) := by show Bb _ _ _ _; (repeat' (first | (with_reducible assumption) | (refine Bb.new (by first | (with_reducible rfl) | (simp; done))) | (with_reducible refine Bb.alloc ?_ _) | (with_reducible refine Bb.drew ?_) | (with_reducible refine Bb.drewN ?_ _) | (with_reducible refine Bb.mono ?_ (by assumption)) | (with_reducible refine Bb.far ?_ (by (try simp only [World.size_alloc, World.size_drew]); omega)) | (with_reducible refine Bb.set ?_ rfl) | (with_reducible refine Bb.grown ?_ (by assumption) (by assumption))))
  have k1_0_0 : w1.cell? ⟨w.heap.size, 0, none⟩ = some (.int .i64 a0) := (hb1.cell (p := ⟨w.heap.size, 0, none⟩) (by show w.heap.size < _; (try simp only [World.size_alloc]); omega)).trans (by first | rfl | (simp; done) | (simp [*]; done) | (repeat (first | (simp; done) | (refine Bb.c (Bb.new ?_) _ rfl; (simp; done)) | refine kclAl ?_)))
  have k1_0_1 : w1.cell? ⟨w.heap.size, 1, none⟩ = some (.slice A1 n1 c1) := (hb1.cell (p := ⟨w.heap.size, 1, none⟩) (by show w.heap.size < _; (try simp only [World.size_alloc]); omega)).trans (by first | rfl | (simp; done) | (simp [*]; done) | (repeat (first | (simp; done) | (refine Bb.c (Bb.new ?_) _ rfl; (simp; done)) | refine kclAl ?_)))
  have r1_0 : ∀ o, w1.frozen? ⟨w.heap.size, o, none⟩ = false := fun o => (hb1.frozen (p := ⟨w.heap.size, o, none⟩) (by show w.heap.size < _; (try simp only [World.size_alloc]); omega)).trans (by first | rfl | (simp; done) | (simp [*]; done) | (repeat (first | (simp; done) | (refine Bb.f (Bb.new ?_) _; (simp; done)) | refine frAl (by (try simp only [World.size_alloc]); omega) ?_)))
  have b1_0 : w.heap.size < w1.heap.size := World.block_lt_of_cell? _ _ k1_0_0
  have k1_1_0 : w1.cell? ⟨w.heap.size + 1, 0, none⟩ = some (.int .i64 0) := (hb1.cell (p := ⟨w.heap.size + 1, 0, none⟩) (by show w.heap.size + 1 < _; (try simp only [World.size_alloc]); omega)).trans (by first | rfl | (simp; done) | (simp [*]; done) | (repeat (first | (simp; done) | (refine Bb.c (Bb.new ?_) _ rfl; (simp; done)) | refine kclAl ?_)))
  have k1_1_1 : w1.cell? ⟨w.heap.size + 1, 1, none⟩ = some (.slice none 0 0) := (hb1.cell (p := ⟨w.heap.size + 1, 1, none⟩) (by show w.heap.size + 1 < _; (try simp only [World.size_alloc]); omega)).trans (by first | rfl | (simp; done) | (simp [*]; done) | (repeat (first | (simp; done) | (refine Bb.c (Bb.new ?_) _ rfl; (simp; done)) | refine kclAl ?_)))
  have r1_1 : ∀ o, w1.frozen? ⟨w.heap.size + 1, o, none⟩ = false := fun o => (hb1.frozen (p := ⟨w.heap.size + 1, o, none⟩) (by show w.heap.size + 1 < _; (try simp only [World.size_alloc]); omega)).trans (by first | rfl | (simp; done) | (simp [*]; done) | (repeat (first | (simp; done) | (refine Bb.f (Bb.new ?_) _; (simp; done)) | refine frAl (by (try simp only [World.size_alloc]); omega) ?_)))
  have b1_1 : w.heap.size + 1 < w1.heap.size := World.block_lt_of_cell? _ _ k1_1_0
  have hW : Below w.heap.size w w1 := by (repeat' (first | (with_reducible exact Below.refl _ _) | (with_reducible assumption) | (with_reducible refine Below.alloc ?_ ?_ _) | (with_reducible refine Below.drew ?_) | (with_reducible refine bdN ?_ _) | (with_reducible refine Below.setCell ?_ ?_ _) | (with_reducible refine chn ?_ (by assumption) ?_) | omega | (simp; done) | (simp; omega)))
  clear hb1
  have hzw := hW.size
  go_wp2_with (fail)
  go_loopg [5] n1 (fun q s4 wr => ∃ (t : Int) (v : Value), s4 = .int .i64 t ∧ t ≤ (q : Int) - 1 ∧ (q : Int) - 1 ≤ t ∧ q ≤ n1 ∧ Hid (Bb wr (w.heap.size) 42 #[.int .i64 a0, .slice A1 n1 c1]) ∧ Hid (Bb wr (w.heap.size + 1) 42 #[.int .i64 0, .slice none 0 0]) ∧ Hid (Bb wr (w1.heap.size) 42 #[.int .i64 a0, v]) ∧ Hid (Own gateE wr (w1.heap.size + 1) 81 v (invL (xs.drop q))) ∧ (w1.heap.size + 1) ≤ wr.heap.size ∧ Below w.heap.size w wr)
  case atStart =>
    refine ⟨(n1 : Int) - 1, .slice none 0 0, rfl, by omega, by omega, by omega, (by have R := Ya.out; show Bb _ _ _ _; (repeat' (first | (with_reducible assumption) | (with_reducible refine Bb.alloc ?_ _) | (with_reducible refine Bb.drew ?_) | (with_reducible refine Bb.drewN ?_ _) | (with_reducible refine Bb.mono ?_ (by assumption)) | (with_reducible refine Bb.far ?_ (by (try simp only [World.size_alloc, World.size_drew]); omega)) | (with_reducible refine Bb.set ?_ rfl) | (with_reducible refine Bb.grown ?_ (by assumption) (by assumption))))), (by have R := Yz.out; show Bb _ _ _ _; (repeat' (first | (with_reducible assumption) | (with_reducible refine Bb.alloc ?_ _) | (with_reducible refine Bb.drew ?_) | (with_reducible refine Bb.drewN ?_ _) | (with_reducible refine Bb.mono ?_ (by assumption)) | (with_reducible refine Bb.far ?_ (by (try simp only [World.size_alloc, World.size_drew]); omega)) | (with_reducible refine Bb.set ?_ rfl) | (with_reducible refine Bb.grown ?_ (by assumption) (by assumption))))), (by  show Bb _ _ _ _; (repeat' (first | (with_reducible assumption) | (refine Bb.new (by first | (with_reducible rfl) | (simp; done))) | (with_reducible refine Bb.alloc ?_ _) | (with_reducible refine Bb.drew ?_) | (with_reducible refine Bb.drewN ?_ _) | (with_reducible refine Bb.mono ?_ (by assumption)) | (with_reducible refine Bb.far ?_ (by (try simp only [World.size_alloc, World.size_drew]); omega)) | (with_reducible refine Bb.set ?_ rfl) | (with_reducible refine Bb.grown ?_ (by assumption) (by assumption))))), ?_, by (try simp only [World.size_alloc]); omega, by (repeat' (first | (with_reducible exact Below.refl _ _) | (with_reducible assumption) | (with_reducible refine Below.alloc ?_ ?_ _) | (with_reducible refine Below.drew ?_) | (with_reducible refine bdN ?_ _) | (with_reducible refine Below.setCell ?_ ?_ _) | (with_reducible refine chn ?_ (by assumption) ?_) | omega | (simp; done) | (simp; omega)))⟩
    show Own _ _ _ _ _ _
    rw [List.drop_of_length_le (by rw [HN.out]; exact Nat.le_refl _)]
    exact Own.nil _ _ _
  case round =>
    obtain ⟨t, v, rfl, ht1, ht2, hq, Xa, Xz, Xo, HO, hsz, hB⟩ := hrel
    clear Ya Yz k1_0_0 k1_0_1 k1_1_0 k1_1_1 r1_0 r1_1 b1_0 b1_1
    obtain ⟨wo, rfl⟩ : ∃ wo, wo = wr := ⟨_, rfl⟩
    have ca0 := Xa.out.c 0 rfl
    have ca1 := Xa.out.c 1 rfl
    have la := Xa.out.lt
    have cz0 := Xz.out.c 0 rfl
    have cz1 := Xz.out.c 1 rfl
    have lz := Xz.out.lt
    have fz := Xz.out.f
    have co0 := Xo.out.c 0 rfl
    have co1 := Xo.out.c 1 rfl
    have lo := Xo.out.lt
    cases gk with
    | zero =>
      have htn : t < 0 := by omega
      have HO1 := HO.out
      rw [List.drop_zero] at HO1
      obtain ⟨B, cq, rfl, hOw⟩ := HO1.ow
      have HOw := lay hOw
      clear hOw HO
      obtain ⟨K, hK⟩ : ∃ K, (invL xs).length = K := ⟨_, rfl⟩
      rw [hK] at co1
      have hi2 := invL_len xs
      rw [HN.out] at hi2
      have hk1 : (400 : Int) < (K : Int) := by omega
      have hk2 : (K : Int) ≤ 2800 := by omega
      have HK := lay hK
      clear hK HO1 hi hi2
      go_wp2_with (fail)
      refine bodyPost_ret (v := .tuple #[circuitV 0 none 0 0, .bool false]) (by first | (simp [results, Try.results22, go_sem, *]; done) | (simp (disch := (first | omega | (simp; done) | (simp; omega))) [results, Try.results22, go_sem, *]; done) | (simp only [results, Try.results22]; go_simp; done)) rfl ⟨rfl, ?_⟩
      (repeat' (first | (with_reducible exact Below.refl _ _) | (with_reducible assumption) | (with_reducible refine Below.alloc ?_ ?_ _) | (with_reducible refine Below.drew ?_) | (with_reducible refine bdN ?_ _) | (with_reducible refine Below.setCell ?_ ?_ _) | (with_reducible refine chn ?_ (by assumption) ?_) | omega | (simp; done) | (simp; omega)))
    | succ i =>
      obtain rfl : t = (i : Int) := by omega
      clear ht1 ht2
      have hlt : i < n1 := by omega
      obtain ⟨x, hx⟩ : ∃ x, xs[i]? = some x := ⟨_, List.getElem?_eq_getElem (by rw [HN.out]; exact hlt)⟩
      have hdc := drop_cons hx
      have hxl : (xs.drop (i + 1)).length ≤ 400 := by rw [List.length_drop, HN.out]; omega
      have hil := invL_len (xs.drop (i + 1))
      have hinv : invL (xs.drop i) = invL (xs.drop (i + 1)) ++ repG x := by rw [hdc, invL_cons]
      obtain ⟨zs, hzs⟩ : ∃ zs, zs = invL (xs.drop (i + 1)) := ⟨_, rfl⟩
      rw [← hzs] at hil hinv
      have HO0 := HO.out
      rw [← hzs] at HO0
      have HO1 := lay HO0
      have HINV := lay hinv
      clear hdc hzs hinv HO HO0
      obtain ⟨g, o, rfl, hgw, hC⟩ := HA.out.atGate hx
      have hC' : wo.cell? ⟨g, o + i * 3, none⟩ = some (.int .i64 x.f0) ∧ wo.cell? ⟨g, o + i * 3 + 1, none⟩ = some (.int .i64 x.f1) ∧ wo.cell? ⟨g, o + i * 3 + 2, none⟩ = some (.int .i64 x.f2) := ⟨(World.cell?_of_block (hB.block g hgw)).trans hC.1, (World.cell?_of_block (hB.block g hgw)).trans hC.2.1, (World.cell?_of_block (hB.block g hgw)).trans hC.2.2⟩
      obtain ⟨q0, q1, q2⟩ := hC'
      clear hC
      have HX := lay hx
      clear hx
      obtain ⟨y, hy⟩ : ∃ y, bkG x = y := ⟨_, rfl⟩
      obtain ⟨N, hN⟩ : ∃ N, bkN x = N := ⟨_, rfl⟩
      have hN7 : N ≤ 7 := by rw [← hN]; exact bkN_le x
      have HY := lay hy
      have HNN := lay hN
      clear hy hN
      have HG5 : Hid (gB 5 x = true) := gB_5 ((okC_iff.1 HO9.out).2.2.2 i x HX.out) (okC_iff.1 HO9.out).2.1
      go_wp2_with (fail)
      refine (iig_v HY.out HNN.out HG5.out _).mono ?_
      rintro ee w5 ⟨rfl, hb5⟩
      have hzb := hb5.size
      have hB5 : Below w.heap.size w w5 := chn hB hb5 hB.size
      have Ya := lay (Xa.out.mono hb5)
      have Yz := lay (Xz.out.mono hb5)
      have Yo := lay (Xo.out.mono hb5)
      have HO5 := lay (HO1.out.mono hb5)
      clear HO1 Xa Xz Xo ca0 ca1 cz0 cz1 co0 co1 la lz lo fz
      have ca0 := Ya.out.c 0 rfl
      have ca1 := Ya.out.c 1 rfl
      have la := Ya.out.lt
      have cz0 := Yz.out.c 0 rfl
      have cz1 := Yz.out.c 1 rfl
      have lz := Yz.out.lt
      have fz := Yz.out.f
      have co0 := Yo.out.c 0 rfl
      have co1 := Yo.out.c 1 rfl
      have lo := Yo.out.lt
      have fo := Yo.out.f
      have hov := HO5.out.lt
      have hneb : v.ownBlock ≠ some w5.heap.size := fun e => by have := (hov _ e).2; omega
      clear hov
      have hkt : (zs ++ List.replicate (N - N) y) = zs := by rw [Nat.sub_self]; simp
      have HKT := lay hkt
      clear hkt
      go_wp2_with (fail)
      go_loopg [35] N (fun r s6 wi => ∃ (v : Value) (p : Nat), s6 = .int .i64 (p : Int) ∧ p + r = N ∧ r ≤ N ∧ v.ownBlock ≠ some w5.heap.size ∧ Hid (Bb wi (w.heap.size) 42 #[.int .i64 a0, .slice (some ⟨g, o, none⟩) n1 c1]) ∧ Hid (Bb wi (w.heap.size + 1) 42 #[.int .i64 0, .slice none 0 0]) ∧ Hid (Bb wi (w1.heap.size) 42 #[.int .i64 a0, v]) ∧ Hid (Bb wi (w5.heap.size) 81 #[.int .i64 y.f0, .int .i64 y.f1, .int .i64 y.f2]) ∧ Hid (Own gateE wi (w1.heap.size + 1) 81 v (zs ++ List.replicate (N - r) y)) ∧ w5.heap.size + 1 ≤ wi.heap.size ∧ Below w.heap.size w wi)
      case atStart =>
        have R1 := Ya.out
        have R2 := Yz.out
        have R3 := Yo.out
        refine ⟨v, 0, rfl, by omega, by omega, hneb, (by show Bb _ _ _ _; (repeat' (first | (with_reducible assumption) | (with_reducible refine Bb.alloc ?_ _) | (with_reducible refine Bb.drew ?_) | (with_reducible refine Bb.drewN ?_ _) | (with_reducible refine Bb.mono ?_ (by assumption)) | (with_reducible refine Bb.far ?_ (by (try simp only [World.size_alloc, World.size_drew]); omega)) | (with_reducible refine Bb.set ?_ rfl) | (with_reducible refine Bb.grown ?_ (by assumption) (by assumption))))), (by show Bb _ _ _ _; (repeat' (first | (with_reducible assumption) | (with_reducible refine Bb.alloc ?_ _) | (with_reducible refine Bb.drew ?_) | (with_reducible refine Bb.drewN ?_ _) | (with_reducible refine Bb.mono ?_ (by assumption)) | (with_reducible refine Bb.far ?_ (by (try simp only [World.size_alloc, World.size_drew]); omega)) | (with_reducible refine Bb.set ?_ rfl) | (with_reducible refine Bb.grown ?_ (by assumption) (by assumption))))), (by show Bb _ _ _ _; (repeat' (first | (with_reducible assumption) | (with_reducible refine Bb.alloc ?_ _) | (with_reducible refine Bb.drew ?_) | (with_reducible refine Bb.drewN ?_ _) | (with_reducible refine Bb.mono ?_ (by assumption)) | (with_reducible refine Bb.far ?_ (by (try simp only [World.size_alloc, World.size_drew]); omega)) | (with_reducible refine Bb.set ?_ rfl) | (with_reducible refine Bb.grown ?_ (by assumption) (by assumption))))), (by show Bb _ _ _ _; (repeat' (first | (with_reducible assumption) | (refine Bb.new (by first | (with_reducible rfl) | (simp; done))) | (with_reducible refine Bb.alloc ?_ _) | (with_reducible refine Bb.drew ?_) | (with_reducible refine Bb.drewN ?_ _) | (with_reducible refine Bb.mono ?_ (by assumption)) | (with_reducible refine Bb.far ?_ (by (try simp only [World.size_alloc, World.size_drew]); omega)) | (with_reducible refine Bb.set ?_ rfl) | (with_reducible refine Bb.grown ?_ (by assumption) (by assumption))))), ?_, by (try simp only [World.size_alloc]); omega, by (repeat' (first | (with_reducible exact Below.refl _ _) | (with_reducible assumption) | (with_reducible refine Below.alloc ?_ ?_ _) | (with_reducible refine Below.drew ?_) | (with_reducible refine bdN ?_ _) | (with_reducible refine Below.setCell ?_ ?_ _) | (with_reducible refine chn ?_ (by assumption) ?_) | omega | (simp; done) | (simp; omega)))⟩
        show Own _ _ _ _ _ _
        rw [HKT.out]
        exact HO5.out.alloc _
      case round =>
        clear HO5 hneb Ya Yz Yo ca0 ca1 cz0 cz1 co0 co1 la lz lo fo fz
        obtain ⟨v, p, rfl, hp1, hr, hneb, Xa, Xz, Xo, Xg, HOv, hszi, hBi⟩ := hrel
        have ca0 := Xa.out.c 0 rfl
        have ca1 := Xa.out.c 1 rfl
        have la := Xa.out.lt
        have cz0 := Xz.out.c 0 rfl
        have cz1 := Xz.out.c 1 rfl
        have lz := Xz.out.lt
        have co0 := Xo.out.c 0 rfl
        have co1 := Xo.out.c 1 rfl
        have lo := Xo.out.lt
        have fo := Xo.out.f
        have cg0 := Xg.out.c 0 rfl
        have cg1 := Xg.out.c 1 rfl
        have cg2 := Xg.out.c 2 rfl
        have lg := Xg.out.lt
        cases gk with
        | zero =>
          obtain rfl : p = N := by omega
          go_wp2_with (fail)
          go_roundg i
          case measure => omega
          case rel =>
            refine ⟨(i : Int) - 1, v, rfl, by omega, by omega, by omega, Xa, Xz, Xo, ?_, by omega, hBi⟩
            show Own _ _ _ _ _ _
            rw [HINV.out]
            have h1 := HOv.out
            rw [Nat.sub_zero] at h1
            unfold repG
            rw [HY.out, HNN.out]
            exact h1
        | succ r =>
          have hpz : p < N ∨ p = N := by omega
          have hp2 : (p < N) := by omega
          have hvl := HOv.out.lt
          have nea : some (w.heap.size) ≠ v.ownBlock := fun e => by have := (hvl _ e.symm).1; omega
          have nez : some (w.heap.size + 1) ≠ v.ownBlock := fun e => by have := (hvl _ e.symm).1; omega
          have neo : some (w1.heap.size) ≠ v.ownBlock := fun e => by have := (hvl _ e.symm).1; omega
          have neg : some (w5.heap.size) ≠ v.ownBlock := fun e => hneb e.symm
          obtain ⟨L, hL⟩ : ∃ L, (zs ++ List.replicate (N - (r + 1)) y).length = L := ⟨_, rfl⟩
          have hlen : L ≤ 3000 := by rw [← hL, List.length_append, List.length_replicate]; omega
          have hmax : L + 1 ≤ maxLen := by unfold maxLen; omega
          have hby : (L + 1) * 24 ≤ 140737488355328 := by omega
          have HL := lay hL
          clear hL
          have HOr := lay nea
          go_wp2_with ((at_builtin; refine wpList_app1 (E := gateE) rfl _ _ _ rfl (w1.heap.size + 1) 81 i0 _ 24 Try.underlying40 hi0 hz0 hz1 hz2 rfl _ _ L HL.out (by rfl) (HOv.out.alloc _) _ _ y #[.int .i64 y.f0, .int .i64 y.f1, .int .i64 y.f2] rfl (by rfl) (heap_alloc_new _ _) hmax hby (by simp only [World.size_alloc]; omega) ?_; intro A2 cp2 w2 hO2 hG2 hat2; have HO2 := lay hO2; have HG2 := lay hG2; have HT2 := lay hat2; clear hO2 hG2 hat2; have hz2' := HG2.out.size; (try simp only [World.size_alloc] at hz2'); have Po := lay ((Xo.out.alloc _).grown HG2.out neo); have po0 := Po.out.c 0 rfl; have po1 := Po.out.c 1 rfl; have lpo := Po.out.lt; have fpo := Po.out.f))
          have Pa := lay ((Xa.out.alloc _).grown HG2.out nea)
          have Pz := lay ((Xz.out.alloc _).grown HG2.out nez)
          have Pg := lay ((Xg.out.alloc _).grown HG2.out neg)
          have hBj : Below w.heap.size w w2 := Below.grown (hBi.alloc (by omega) _) HG2.out (by simp only [World.size_alloc]; omega) (fun k e => by have := (hvl k e).1; omega)
          have hneb2 : (Value.slice A2 (L + 1) cp2).ownBlock ≠ some w5.heap.size := by
            rcases HT2.out with e | e
            · rw [e]; exact hneb
            · rw [e]; simp only [World.size_alloc, ne_eq, Option.some.injEq]; omega
          go_roundg r
          case measure => omega
          case rel =>
            refine ⟨_, p + 1, by go_num, by omega, by omega, hneb2, (by show Bb _ _ _ _; exact Pa.out.far (by omega)), (by show Bb _ _ _ _; exact Pz.out.far (by omega)), (by show Bb _ _ _ _; exact Po.out.set rfl), (by show Bb _ _ _ _; exact Pg.out.far (by omega)), ?_, by (try simp only [World.size_setCell]); omega, by (repeat' (first | (with_reducible exact Below.refl _ _) | (with_reducible assumption) | (with_reducible refine Below.alloc ?_ ?_ _) | (with_reducible refine Below.drew ?_) | (with_reducible refine bdN ?_ _) | (with_reducible refine Below.setCell ?_ ?_ _) | (with_reducible refine chn ?_ (by assumption) ?_) | omega | (simp; done) | (simp; omega)))⟩
            show Own _ _ _ _ _ _
            have h1 := HO2.out
            rw [rep_snoc (by omega)] at h1
            exact h1.far (by show w1.heap.size < _; omega) _

set_option maxRecDepth 100000 in
set_option maxHeartbeats 8000000 in
theorem iInverse_t {a0 : Int} {A1 : Option Addr} {n1 c1 : Nat} {xs : List GateV} {w : World} (hA : Rd gateE w A1 xs) (hn : xs.length = n1) (hm : n1 ≤ maxLen) (hok : okC a0 n1 xs = true) (hl : n1 ≤ 400) (hi : (invL xs).length ≤ 400) :
    Calls Try.prog 22 #[circuitV a0 A1 n1 c1] w fun ee w' => OkC a0 (invL xs) w ee w' := by
  obtain ⟨i0, hi0, hz0, hz1, hz2⟩ := info_parts infoGate
  have HA := lay hA
  have HN := lay hn
  have HO9 := lay hok
  clear hA hn hok
  go_enter Try.func22, Try.ntmps22
  go_wp2_with (fail)
  refine (vci (xs := xs) HO9.out ?_ HN.out hm).mono ?_
  · exact HA.out.mono (by (repeat' (first | (with_reducible exact Below.refl _ _) | (with_reducible assumption) | (with_reducible refine Below.alloc ?_ ?_ _) | (with_reducible refine Below.drew ?_) | (with_reducible refine bdN ?_ _) | (with_reducible refine Below.setCell ?_ ?_ _) | (with_reducible refine chn ?_ (by assumption) ?_) | omega | (simp; done) | (simp; omega))))
  rintro ee w1 ⟨rfl, hb1⟩
  have hz1' := hb1.size
  simp only [World.size_alloc] at hz1'
  have Ya : Hid (Bb w1 w.heap.size 42 #[.int .i64 a0, .slice A1 n1 c1]) := by show Bb _ _ _ _; (repeat' (first | (with_reducible assumption) | (refine Bb.new (by first | (with_reducible rfl) | (simp; done))) | (with_reducible refine Bb.alloc ?_ _) | (with_reducible refine Bb.drew ?_) | (with_reducible refine Bb.drewN ?_ _) | (with_reducible refine Bb.mono ?_ (by assumption)) | (with_reducible refine Bb.far ?_ (by (try simp only [World.size_alloc, World.size_drew]); omega)) | (with_reducible refine Bb.set ?_ rfl) | (with_reducible refine Bb.grown ?_ (by assumption) (by assumption))))
  have Yz : Hid (Bb w1 (w.heap.size + 1) 42 #[.int .i64 0, .slice none 0 0]) := by show Bb _ _ _ _; (repeat' (first | (with_reducible assumption) | (refine Bb.new (by first | (with_reducible rfl) | (simp; done))) | (with_reducible refine Bb.alloc ?_ _) | (with_reducible refine Bb.drew ?_) | (with_reducible refine Bb.drewN ?_ _) | (with_reducible refine Bb.mono ?_ (by assumption)) | (with_reducible refine Bb.far ?_ (by (try simp only [World.size_alloc, World.size_drew]); omega)) | (with_reducible refine Bb.set ?_ rfl) | (with_reducible refine Bb.grown ?_ (by assumption) (by assumption))))
  have k1_0_0 : w1.cell? ⟨w.heap.size, 0, none⟩ = some (.int .i64 a0) := (hb1.cell (p := ⟨w.heap.size, 0, none⟩) (by show w.heap.size < _; (try simp only [World.size_alloc]); omega)).trans (by first | rfl | (simp; done) | (simp [*]; done) | (repeat (first | (simp; done) | (refine Bb.c (Bb.new ?_) _ rfl; (simp; done)) | refine kclAl ?_)))
  have k1_0_1 : w1.cell? ⟨w.heap.size, 1, none⟩ = some (.slice A1 n1 c1) := (hb1.cell (p := ⟨w.heap.size, 1, none⟩) (by show w.heap.size < _; (try simp only [World.size_alloc]); omega)).trans (by first | rfl | (simp; done) | (simp [*]; done) | (repeat (first | (simp; done) | (refine Bb.c (Bb.new ?_) _ rfl; (simp; done)) | refine kclAl ?_)))
  have r1_0 : ∀ o, w1.frozen? ⟨w.heap.size, o, none⟩ = false := fun o => (hb1.frozen (p := ⟨w.heap.size, o, none⟩) (by show w.heap.size < _; (try simp only [World.size_alloc]); omega)).trans (by first | rfl | (simp; done) | (simp [*]; done) | (repeat (first | (simp; done) | (refine Bb.f (Bb.new ?_) _; (simp; done)) | refine frAl (by (try simp only [World.size_alloc]); omega) ?_)))
  have b1_0 : w.heap.size < w1.heap.size := World.block_lt_of_cell? _ _ k1_0_0
  have k1_1_0 : w1.cell? ⟨w.heap.size + 1, 0, none⟩ = some (.int .i64 0) := (hb1.cell (p := ⟨w.heap.size + 1, 0, none⟩) (by show w.heap.size + 1 < _; (try simp only [World.size_alloc]); omega)).trans (by first | rfl | (simp; done) | (simp [*]; done) | (repeat (first | (simp; done) | (refine Bb.c (Bb.new ?_) _ rfl; (simp; done)) | refine kclAl ?_)))
  have k1_1_1 : w1.cell? ⟨w.heap.size + 1, 1, none⟩ = some (.slice none 0 0) := (hb1.cell (p := ⟨w.heap.size + 1, 1, none⟩) (by show w.heap.size + 1 < _; (try simp only [World.size_alloc]); omega)).trans (by first | rfl | (simp; done) | (simp [*]; done) | (repeat (first | (simp; done) | (refine Bb.c (Bb.new ?_) _ rfl; (simp; done)) | refine kclAl ?_)))
  have r1_1 : ∀ o, w1.frozen? ⟨w.heap.size + 1, o, none⟩ = false := fun o => (hb1.frozen (p := ⟨w.heap.size + 1, o, none⟩) (by show w.heap.size + 1 < _; (try simp only [World.size_alloc]); omega)).trans (by first | rfl | (simp; done) | (simp [*]; done) | (repeat (first | (simp; done) | (refine Bb.f (Bb.new ?_) _; (simp; done)) | refine frAl (by (try simp only [World.size_alloc]); omega) ?_)))
  have b1_1 : w.heap.size + 1 < w1.heap.size := World.block_lt_of_cell? _ _ k1_1_0
  have hW : Below w.heap.size w w1 := by (repeat' (first | (with_reducible exact Below.refl _ _) | (with_reducible assumption) | (with_reducible refine Below.alloc ?_ ?_ _) | (with_reducible refine Below.drew ?_) | (with_reducible refine bdN ?_ _) | (with_reducible refine Below.setCell ?_ ?_ _) | (with_reducible refine chn ?_ (by assumption) ?_) | omega | (simp; done) | (simp; omega)))
  clear hb1
  have hzw := hW.size
  go_wp2_with (fail)
  go_loopg [5] n1 (fun q s4 wr => ∃ (t : Int) (v : Value), s4 = .int .i64 t ∧ t ≤ (q : Int) - 1 ∧ (q : Int) - 1 ≤ t ∧ q ≤ n1 ∧ Hid (Bb wr (w.heap.size) 42 #[.int .i64 a0, .slice A1 n1 c1]) ∧ Hid (Bb wr (w.heap.size + 1) 42 #[.int .i64 0, .slice none 0 0]) ∧ Hid (Bb wr (w1.heap.size) 42 #[.int .i64 a0, v]) ∧ Hid (Own gateE wr (w1.heap.size + 1) 81 v (invL (xs.drop q))) ∧ (w1.heap.size + 1) ≤ wr.heap.size ∧ Below w.heap.size w wr)
  case atStart =>
    refine ⟨(n1 : Int) - 1, .slice none 0 0, rfl, by omega, by omega, by omega, (by have R := Ya.out; show Bb _ _ _ _; (repeat' (first | (with_reducible assumption) | (with_reducible refine Bb.alloc ?_ _) | (with_reducible refine Bb.drew ?_) | (with_reducible refine Bb.drewN ?_ _) | (with_reducible refine Bb.mono ?_ (by assumption)) | (with_reducible refine Bb.far ?_ (by (try simp only [World.size_alloc, World.size_drew]); omega)) | (with_reducible refine Bb.set ?_ rfl) | (with_reducible refine Bb.grown ?_ (by assumption) (by assumption))))), (by have R := Yz.out; show Bb _ _ _ _; (repeat' (first | (with_reducible assumption) | (with_reducible refine Bb.alloc ?_ _) | (with_reducible refine Bb.drew ?_) | (with_reducible refine Bb.drewN ?_ _) | (with_reducible refine Bb.mono ?_ (by assumption)) | (with_reducible refine Bb.far ?_ (by (try simp only [World.size_alloc, World.size_drew]); omega)) | (with_reducible refine Bb.set ?_ rfl) | (with_reducible refine Bb.grown ?_ (by assumption) (by assumption))))), (by  show Bb _ _ _ _; (repeat' (first | (with_reducible assumption) | (refine Bb.new (by first | (with_reducible rfl) | (simp; done))) | (with_reducible refine Bb.alloc ?_ _) | (with_reducible refine Bb.drew ?_) | (with_reducible refine Bb.drewN ?_ _) | (with_reducible refine Bb.mono ?_ (by assumption)) | (with_reducible refine Bb.far ?_ (by (try simp only [World.size_alloc, World.size_drew]); omega)) | (with_reducible refine Bb.set ?_ rfl) | (with_reducible refine Bb.grown ?_ (by assumption) (by assumption))))), ?_, by (try simp only [World.size_alloc]); omega, by (repeat' (first | (with_reducible exact Below.refl _ _) | (with_reducible assumption) | (with_reducible refine Below.alloc ?_ ?_ _) | (with_reducible refine Below.drew ?_) | (with_reducible refine bdN ?_ _) | (with_reducible refine Below.setCell ?_ ?_ _) | (with_reducible refine chn ?_ (by assumption) ?_) | omega | (simp; done) | (simp; omega)))⟩
    show Own _ _ _ _ _ _
    rw [List.drop_of_length_le (by rw [HN.out]; exact Nat.le_refl _)]
    exact Own.nil _ _ _
  case round =>
    obtain ⟨t, v, rfl, ht1, ht2, hq, Xa, Xz, Xo, HO, hsz, hB⟩ := hrel
    clear Ya Yz k1_0_0 k1_0_1 k1_1_0 k1_1_1 r1_0 r1_1 b1_0 b1_1
    obtain ⟨wo, rfl⟩ : ∃ wo, wo = wr := ⟨_, rfl⟩
    have ca0 := Xa.out.c 0 rfl
    have ca1 := Xa.out.c 1 rfl
    have la := Xa.out.lt
    have cz0 := Xz.out.c 0 rfl
    have cz1 := Xz.out.c 1 rfl
    have lz := Xz.out.lt
    have fz := Xz.out.f
    have co0 := Xo.out.c 0 rfl
    have co1 := Xo.out.c 1 rfl
    have lo := Xo.out.lt
    cases gk with
    | zero =>
      have htn : t < 0 := by omega
      have HO1 := HO.out
      rw [List.drop_zero] at HO1
      obtain ⟨B, cq, rfl, hOw⟩ := HO1.ow
      have HOw := lay hOw
      clear hOw HO
      obtain ⟨K, hK⟩ : ∃ K, (invL xs).length = K := ⟨_, rfl⟩
      rw [hK] at co1
      have hi' : K ≤ 400 := by omega
      have hk1 : ¬ ((400 : Int) < (K : Int)) := by omega
      have HK := lay hK
      clear hK HO1 hi
      go_wp2_with (fail)
      refine bodyPost_ret (v := .tuple #[circuitV a0 B K cq, .bool true]) (by first | (simp [results, Try.results22, go_sem, *]; done) | (simp (disch := (first | omega | (simp; done) | (simp; omega))) [results, Try.results22, go_sem, *]; done) | (simp only [results, Try.results22]; go_simp; done)) rfl (OkC.i HK.out rfl ?_ ?_)
      · have R := HOw.out.dn (show w.heap.size + 1 + 1 ≤ w1.heap.size + 1 by omega)
        refine Ow.dn (B := w.heap.size + 1 + 1) ?_ (by omega)
        (repeat' (first | (with_reducible assumption) | (with_reducible refine Ow.al ?_ _) | (refine Ow.far ?_ (by dsimp only; omega) _)))
      · (repeat' (first | (with_reducible exact Below.refl _ _) | (with_reducible assumption) | (with_reducible refine Below.alloc ?_ ?_ _) | (with_reducible refine Below.drew ?_) | (with_reducible refine bdN ?_ _) | (with_reducible refine Below.setCell ?_ ?_ _) | (with_reducible refine chn ?_ (by assumption) ?_) | omega | (simp; done) | (simp; omega)))
    | succ i =>
      obtain rfl : t = (i : Int) := by omega
      clear ht1 ht2
      have hlt : i < n1 := by omega
      obtain ⟨x, hx⟩ : ∃ x, xs[i]? = some x := ⟨_, List.getElem?_eq_getElem (by rw [HN.out]; exact hlt)⟩
      have hdc := drop_cons hx
      have hxl : (xs.drop (i + 1)).length ≤ 400 := by rw [List.length_drop, HN.out]; omega
      have hil := invL_len (xs.drop (i + 1))
      have hinv : invL (xs.drop i) = invL (xs.drop (i + 1)) ++ repG x := by rw [hdc, invL_cons]
      obtain ⟨zs, hzs⟩ : ∃ zs, zs = invL (xs.drop (i + 1)) := ⟨_, rfl⟩
      rw [← hzs] at hil hinv
      have HO0 := HO.out
      rw [← hzs] at HO0
      have HO1 := lay HO0
      have HINV := lay hinv
      clear hdc hzs hinv HO HO0
      obtain ⟨g, o, rfl, hgw, hC⟩ := HA.out.atGate hx
      have hC' : wo.cell? ⟨g, o + i * 3, none⟩ = some (.int .i64 x.f0) ∧ wo.cell? ⟨g, o + i * 3 + 1, none⟩ = some (.int .i64 x.f1) ∧ wo.cell? ⟨g, o + i * 3 + 2, none⟩ = some (.int .i64 x.f2) := ⟨(World.cell?_of_block (hB.block g hgw)).trans hC.1, (World.cell?_of_block (hB.block g hgw)).trans hC.2.1, (World.cell?_of_block (hB.block g hgw)).trans hC.2.2⟩
      obtain ⟨q0, q1, q2⟩ := hC'
      clear hC
      have HX := lay hx
      clear hx
      obtain ⟨y, hy⟩ : ∃ y, bkG x = y := ⟨_, rfl⟩
      obtain ⟨N, hN⟩ : ∃ N, bkN x = N := ⟨_, rfl⟩
      have hN7 : N ≤ 7 := by rw [← hN]; exact bkN_le x
      have HY := lay hy
      have HNN := lay hN
      clear hy hN
      have HG5 : Hid (gB 5 x = true) := gB_5 ((okC_iff.1 HO9.out).2.2.2 i x HX.out) (okC_iff.1 HO9.out).2.1
      go_wp2_with (fail)
      refine (iig_v HY.out HNN.out HG5.out _).mono ?_
      rintro ee w5 ⟨rfl, hb5⟩
      have hzb := hb5.size
      have hB5 : Below w.heap.size w w5 := chn hB hb5 hB.size
      have Ya := lay (Xa.out.mono hb5)
      have Yz := lay (Xz.out.mono hb5)
      have Yo := lay (Xo.out.mono hb5)
      have HO5 := lay (HO1.out.mono hb5)
      clear HO1 Xa Xz Xo ca0 ca1 cz0 cz1 co0 co1 la lz lo fz
      have ca0 := Ya.out.c 0 rfl
      have ca1 := Ya.out.c 1 rfl
      have la := Ya.out.lt
      have cz0 := Yz.out.c 0 rfl
      have cz1 := Yz.out.c 1 rfl
      have lz := Yz.out.lt
      have fz := Yz.out.f
      have co0 := Yo.out.c 0 rfl
      have co1 := Yo.out.c 1 rfl
      have lo := Yo.out.lt
      have fo := Yo.out.f
      have hov := HO5.out.lt
      have hneb : v.ownBlock ≠ some w5.heap.size := fun e => by have := (hov _ e).2; omega
      clear hov
      have hkt : (zs ++ List.replicate (N - N) y) = zs := by rw [Nat.sub_self]; simp
      have HKT := lay hkt
      clear hkt
      go_wp2_with (fail)
      go_loopg [35] N (fun r s6 wi => ∃ (v : Value) (p : Nat), s6 = .int .i64 (p : Int) ∧ p + r = N ∧ r ≤ N ∧ v.ownBlock ≠ some w5.heap.size ∧ Hid (Bb wi (w.heap.size) 42 #[.int .i64 a0, .slice (some ⟨g, o, none⟩) n1 c1]) ∧ Hid (Bb wi (w.heap.size + 1) 42 #[.int .i64 0, .slice none 0 0]) ∧ Hid (Bb wi (w1.heap.size) 42 #[.int .i64 a0, v]) ∧ Hid (Bb wi (w5.heap.size) 81 #[.int .i64 y.f0, .int .i64 y.f1, .int .i64 y.f2]) ∧ Hid (Own gateE wi (w1.heap.size + 1) 81 v (zs ++ List.replicate (N - r) y)) ∧ w5.heap.size + 1 ≤ wi.heap.size ∧ Below w.heap.size w wi)
      case atStart =>
        have R1 := Ya.out
        have R2 := Yz.out
        have R3 := Yo.out
        refine ⟨v, 0, rfl, by omega, by omega, hneb, (by show Bb _ _ _ _; (repeat' (first | (with_reducible assumption) | (with_reducible refine Bb.alloc ?_ _) | (with_reducible refine Bb.drew ?_) | (with_reducible refine Bb.drewN ?_ _) | (with_reducible refine Bb.mono ?_ (by assumption)) | (with_reducible refine Bb.far ?_ (by (try simp only [World.size_alloc, World.size_drew]); omega)) | (with_reducible refine Bb.set ?_ rfl) | (with_reducible refine Bb.grown ?_ (by assumption) (by assumption))))), (by show Bb _ _ _ _; (repeat' (first | (with_reducible assumption) | (with_reducible refine Bb.alloc ?_ _) | (with_reducible refine Bb.drew ?_) | (with_reducible refine Bb.drewN ?_ _) | (with_reducible refine Bb.mono ?_ (by assumption)) | (with_reducible refine Bb.far ?_ (by (try simp only [World.size_alloc, World.size_drew]); omega)) | (with_reducible refine Bb.set ?_ rfl) | (with_reducible refine Bb.grown ?_ (by assumption) (by assumption))))), (by show Bb _ _ _ _; (repeat' (first | (with_reducible assumption) | (with_reducible refine Bb.alloc ?_ _) | (with_reducible refine Bb.drew ?_) | (with_reducible refine Bb.drewN ?_ _) | (with_reducible refine Bb.mono ?_ (by assumption)) | (with_reducible refine Bb.far ?_ (by (try simp only [World.size_alloc, World.size_drew]); omega)) | (with_reducible refine Bb.set ?_ rfl) | (with_reducible refine Bb.grown ?_ (by assumption) (by assumption))))), (by show Bb _ _ _ _; (repeat' (first | (with_reducible assumption) | (refine Bb.new (by first | (with_reducible rfl) | (simp; done))) | (with_reducible refine Bb.alloc ?_ _) | (with_reducible refine Bb.drew ?_) | (with_reducible refine Bb.drewN ?_ _) | (with_reducible refine Bb.mono ?_ (by assumption)) | (with_reducible refine Bb.far ?_ (by (try simp only [World.size_alloc, World.size_drew]); omega)) | (with_reducible refine Bb.set ?_ rfl) | (with_reducible refine Bb.grown ?_ (by assumption) (by assumption))))), ?_, by (try simp only [World.size_alloc]); omega, by (repeat' (first | (with_reducible exact Below.refl _ _) | (with_reducible assumption) | (with_reducible refine Below.alloc ?_ ?_ _) | (with_reducible refine Below.drew ?_) | (with_reducible refine bdN ?_ _) | (with_reducible refine Below.setCell ?_ ?_ _) | (with_reducible refine chn ?_ (by assumption) ?_) | omega | (simp; done) | (simp; omega)))⟩
        show Own _ _ _ _ _ _
        rw [HKT.out]
        exact HO5.out.alloc _
      case round =>
        clear HO5 hneb Ya Yz Yo ca0 ca1 cz0 cz1 co0 co1 la lz lo fo fz
        obtain ⟨v, p, rfl, hp1, hr, hneb, Xa, Xz, Xo, Xg, HOv, hszi, hBi⟩ := hrel
        have ca0 := Xa.out.c 0 rfl
        have ca1 := Xa.out.c 1 rfl
        have la := Xa.out.lt
        have cz0 := Xz.out.c 0 rfl
        have cz1 := Xz.out.c 1 rfl
        have lz := Xz.out.lt
        have co0 := Xo.out.c 0 rfl
        have co1 := Xo.out.c 1 rfl
        have lo := Xo.out.lt
        have fo := Xo.out.f
        have cg0 := Xg.out.c 0 rfl
        have cg1 := Xg.out.c 1 rfl
        have cg2 := Xg.out.c 2 rfl
        have lg := Xg.out.lt
        cases gk with
        | zero =>
          obtain rfl : p = N := by omega
          go_wp2_with (fail)
          go_roundg i
          case measure => omega
          case rel =>
            refine ⟨(i : Int) - 1, v, rfl, by omega, by omega, by omega, Xa, Xz, Xo, ?_, by omega, hBi⟩
            show Own _ _ _ _ _ _
            rw [HINV.out]
            have h1 := HOv.out
            rw [Nat.sub_zero] at h1
            unfold repG
            rw [HY.out, HNN.out]
            exact h1
        | succ r =>
          have hpz : p < N ∨ p = N := by omega
          have hp2 : (p < N) := by omega
          have hvl := HOv.out.lt
          have nea : some (w.heap.size) ≠ v.ownBlock := fun e => by have := (hvl _ e.symm).1; omega
          have nez : some (w.heap.size + 1) ≠ v.ownBlock := fun e => by have := (hvl _ e.symm).1; omega
          have neo : some (w1.heap.size) ≠ v.ownBlock := fun e => by have := (hvl _ e.symm).1; omega
          have neg : some (w5.heap.size) ≠ v.ownBlock := fun e => hneb e.symm
          obtain ⟨L, hL⟩ : ∃ L, (zs ++ List.replicate (N - (r + 1)) y).length = L := ⟨_, rfl⟩
          have hlen : L ≤ 3000 := by rw [← hL, List.length_append, List.length_replicate]; omega
          have hmax : L + 1 ≤ maxLen := by unfold maxLen; omega
          have hby : (L + 1) * 24 ≤ 140737488355328 := by omega
          have HL := lay hL
          clear hL
          have HOr := lay nea
          go_wp2_with ((at_builtin; refine wpList_app1 (E := gateE) rfl _ _ _ rfl (w1.heap.size + 1) 81 i0 _ 24 Try.underlying40 hi0 hz0 hz1 hz2 rfl _ _ L HL.out (by rfl) (HOv.out.alloc _) _ _ y #[.int .i64 y.f0, .int .i64 y.f1, .int .i64 y.f2] rfl (by rfl) (heap_alloc_new _ _) hmax hby (by simp only [World.size_alloc]; omega) ?_; intro A2 cp2 w2 hO2 hG2 hat2; have HO2 := lay hO2; have HG2 := lay hG2; have HT2 := lay hat2; clear hO2 hG2 hat2; have hz2' := HG2.out.size; (try simp only [World.size_alloc] at hz2'); have Po := lay ((Xo.out.alloc _).grown HG2.out neo); have po0 := Po.out.c 0 rfl; have po1 := Po.out.c 1 rfl; have lpo := Po.out.lt; have fpo := Po.out.f))
          have Pa := lay ((Xa.out.alloc _).grown HG2.out nea)
          have Pz := lay ((Xz.out.alloc _).grown HG2.out nez)
          have Pg := lay ((Xg.out.alloc _).grown HG2.out neg)
          have hBj : Below w.heap.size w w2 := Below.grown (hBi.alloc (by omega) _) HG2.out (by simp only [World.size_alloc]; omega) (fun k e => by have := (hvl k e).1; omega)
          have hneb2 : (Value.slice A2 (L + 1) cp2).ownBlock ≠ some w5.heap.size := by
            rcases HT2.out with e | e
            · rw [e]; exact hneb
            · rw [e]; simp only [World.size_alloc, ne_eq, Option.some.injEq]; omega
          go_roundg r
          case measure => omega
          case rel =>
            refine ⟨_, p + 1, by go_num, by omega, by omega, hneb2, (by show Bb _ _ _ _; exact Pa.out.far (by omega)), (by show Bb _ _ _ _; exact Pz.out.far (by omega)), (by show Bb _ _ _ _; exact Po.out.set rfl), (by show Bb _ _ _ _; exact Pg.out.far (by omega)), ?_, by (try simp only [World.size_setCell]); omega, by (repeat' (first | (with_reducible exact Below.refl _ _) | (with_reducible assumption) | (with_reducible refine Below.alloc ?_ ?_ _) | (with_reducible refine Below.drew ?_) | (with_reducible refine bdN ?_ _) | (with_reducible refine Below.setCell ?_ ?_ _) | (with_reducible refine chn ?_ (by assumption) ?_) | omega | (simp; done) | (simp; omega)))⟩
            show Own _ _ _ _ _ _
            have h1 := HO2.out
            rw [rep_snoc (by omega)] at h1
            exact h1.far (by show w1.heap.size < _; omega) _

end Go.Proofs.Ytdbnjoeanoiifaa
