/- TableauOf: the program. -/
import Derived.Test.YtjedpeoafpljhaaE8o
import Derived.Test.YtjedpeoafpljhaaPco
import Derived.Deep.DeepCutAuto
namespace Go.Proofs.Ytjedpeoafpljhaa.C4
open Go.RowKit
set_option linter.unusedVariables false
set_option linter.unusedSimpArgs false
attribute [local irreducible] World.setCell

set_option maxRecDepth 100000 in
set_option maxHeartbeats 8000000 in
theorem ti_t {n m c : Nat} {A : Option Addr} {gs : List GateV} {w : World} (q1 : 1 ≤ n) (q5 : n ≤ 5) (h4 : m ≤ 400) (hok : okC (n : Int) m gs = true) (hT : noT gs) (hg : okG9 n gs) (hA : Rd gateE w A gs) (hn : gs.length = m) :
    Calls Try.prog 32 #[circuitV (n : Int) A m c] w fun ee w' => ∃ (A1 : Option Addr) (k1 : Nat) (A2 : Option Addr) (k2 : Nat), ee = .returned (.tuple #[tableauV n A1 n k1 A2 n k2, .bool true]) ∧ Ow pauliE w' w.heap.size 43 A1 (tauT n gs m).1 ∧ Ow pauliE w' w.heap.size 43 A2 (tauT n gs m).2 ∧ (∀ r, blk A1 = some r → blk A2 ≠ some r) ∧ Below w.heap.size w w' := by
  have HOK := lay hok
  have HNT := lay hT
  have HG := lay hg
  have HA := lay hA
  have HN := lay hn
  have hml : m ≤ maxLen := by unfold maxLen; omega
  clear hok hT hg hA hn
  go_enter Try.func32, Try.ntmps32
  go_wp2_with (fail)
  refine (vci (xs := gs) HOK.out ?_ HN.out hml).mono ?_
  · exact HA.out.mono (by (repeat' (first | (with_reducible exact Below.refl _ _) | (with_reducible assumption) | (with_reducible refine Below.alloc ?_ ?_ _) | (with_reducible refine Below.drew ?_) | (with_reducible refine bdN ?_ _) | (with_reducible refine Below.setCell ?_ ?_ _) | (with_reducible refine chn ?_ (by assumption) ?_) | omega | (simp; done) | (simp; omega))))
  rintro ee w1 ⟨rfl, hb1⟩
  have hz1 := hb1.size
  (try simp only [World.size_alloc] at hz1)
  have Yc : Hid (Bb w1 (w.heap.size) 58 #[.int .i64 (n : Int), .slice A m c]) := by show Bb _ _ _ _; (repeat' (first | (with_reducible assumption) | (refine Bb.new (by first | (with_reducible rfl) | (simp; done))) | (with_reducible refine Bb.alloc ?_ _) | (with_reducible refine Bb.drew ?_) | (with_reducible refine Bb.drewN ?_ _) | (with_reducible refine Bb.mono ?_ (by assumption)) | (with_reducible refine Bb.far ?_ (by (try simp only [World.size_alloc, World.size_drew]); omega)) | (with_reducible refine Bb.set ?_ rfl) | (with_reducible refine Bb.grown ?_ (by assumption) (by assumption))))
  have Yz : Hid (Bb w1 (w.heap.size + 1) 53 #[.int .i64 0, .slice none 0 0, .slice none 0 0]) := by show Bb _ _ _ _; (repeat' (first | (with_reducible assumption) | (refine Bb.new (by first | (with_reducible rfl) | (simp; done))) | (with_reducible refine Bb.alloc ?_ _) | (with_reducible refine Bb.drew ?_) | (with_reducible refine Bb.drewN ?_ _) | (with_reducible refine Bb.mono ?_ (by assumption)) | (with_reducible refine Bb.far ?_ (by (try simp only [World.size_alloc, World.size_drew]); omega)) | (with_reducible refine Bb.set ?_ rfl) | (with_reducible refine Bb.grown ?_ (by assumption) (by assumption))))
  (try clear Rc)
  (try clear Xc)
  have Xc := Yc
  clear Yc
  (try clear Rz)
  (try clear Xz)
  have Xz := Yz
  clear Yz
  have hB1 : Below w.heap.size w w1 := by (repeat' (first | (with_reducible exact Below.refl _ _) | (with_reducible assumption) | (with_reducible refine Below.alloc ?_ ?_ _) | (with_reducible refine Below.drew ?_) | (with_reducible refine bdN ?_ _) | (with_reducible refine Below.setCell ?_ ?_ _) | (with_reducible refine chn ?_ (by assumption) ?_) | omega | (simp; done) | (simp; omega)))
  clear hb1
  have cc0 := Xc.out.c 0 rfl
  have cc1 := Xc.out.c 1 rfl
  have lc := Xc.out.lt
  have cz0 := Xz.out.c 0 rfl
  have cz1 := Xz.out.c 1 rfl
  have cz2 := Xz.out.c 2 rfl
  have lz := Xz.out.lt
  have fz := Xz.out.f
  go_wp2_with (fail)
  refine (ctf_f (xs := gs) ?_ HN.out hml HNT.out).mono ?_
  · exact HA.out.mono (by (repeat' (first | (with_reducible exact Below.refl _ _) | (with_reducible assumption) | (with_reducible refine Below.alloc ?_ ?_ _) | (with_reducible refine Below.drew ?_) | (with_reducible refine bdN ?_ _) | (with_reducible refine Below.setCell ?_ ?_ _) | (with_reducible refine chn ?_ (by assumption) ?_) | omega | (simp; done) | (simp; omega))))
  rintro ee w2 ⟨rfl, hb2⟩
  have hz2 := hb2.size
  (try simp only [World.size_alloc] at hz2)
  clear cc0 cc1 lc cz0 cz1 cz2 lz fz
  have Rc := Xc.out
  have Rz := Xz.out
  have Yc : Hid (Bb w2 (w.heap.size) 58 #[.int .i64 (n : Int), .slice A m c]) := by show Bb _ _ _ _; (repeat' (first | (with_reducible assumption) | (refine Bb.new (by first | (with_reducible rfl) | (simp; done))) | (with_reducible refine Bb.alloc ?_ _) | (with_reducible refine Bb.drew ?_) | (with_reducible refine Bb.drewN ?_ _) | (with_reducible refine Bb.mono ?_ (by assumption)) | (with_reducible refine Bb.far ?_ (by (try simp only [World.size_alloc, World.size_drew]); omega)) | (with_reducible refine Bb.set ?_ rfl) | (with_reducible refine Bb.grown ?_ (by assumption) (by assumption))))
  have Yz : Hid (Bb w2 (w.heap.size + 1) 53 #[.int .i64 0, .slice none 0 0, .slice none 0 0]) := by show Bb _ _ _ _; (repeat' (first | (with_reducible assumption) | (refine Bb.new (by first | (with_reducible rfl) | (simp; done))) | (with_reducible refine Bb.alloc ?_ _) | (with_reducible refine Bb.drew ?_) | (with_reducible refine Bb.drewN ?_ _) | (with_reducible refine Bb.mono ?_ (by assumption)) | (with_reducible refine Bb.far ?_ (by (try simp only [World.size_alloc, World.size_drew]); omega)) | (with_reducible refine Bb.set ?_ rfl) | (with_reducible refine Bb.grown ?_ (by assumption) (by assumption))))
  (try clear Rc)
  (try clear Xc)
  have Xc := Yc
  clear Yc
  (try clear Rz)
  (try clear Xz)
  have Xz := Yz
  clear Yz
  have hB2 : Below w.heap.size w w2 := by (repeat' (first | (with_reducible exact Below.refl _ _) | (with_reducible assumption) | (with_reducible refine Below.alloc ?_ ?_ _) | (with_reducible refine Below.drew ?_) | (with_reducible refine bdN ?_ _) | (with_reducible refine Below.setCell ?_ ?_ _) | (with_reducible refine chn ?_ (by assumption) ?_) | omega | (simp; done) | (simp; omega)))
  clear hb2
  have cc0 := Xc.out.c 0 rfl
  have cc1 := Xc.out.c 1 rfl
  have lc := Xc.out.lt
  have cz0 := Xz.out.c 0 rfl
  have cz1 := Xz.out.c 1 rfl
  have cz2 := Xz.out.c 2 rfl
  have lz := Xz.out.lt
  have fz := Xz.out.f
  go_wp2_with (fail)
  refine (idt q1 q5 _).mono ?_
  rintro ee w3 ⟨gx, gz, rfl, hK1, hK2, l1, l2, hne, hb3⟩
  have hz3 := hb3.size
  (try simp only [World.size_alloc] at hz3)
  clear cc0 cc1 lc cz0 cz1 cz2 lz fz
  have Rc := Xc.out
  have Rz := Xz.out
  have Yc : Hid (Bb w3 (w.heap.size) 58 #[.int .i64 (n : Int), .slice A m c]) := by show Bb _ _ _ _; (repeat' (first | (with_reducible assumption) | (refine Bb.new (by first | (with_reducible rfl) | (simp; done))) | (with_reducible refine Bb.alloc ?_ _) | (with_reducible refine Bb.drew ?_) | (with_reducible refine Bb.drewN ?_ _) | (with_reducible refine Bb.mono ?_ (by assumption)) | (with_reducible refine Bb.far ?_ (by (try simp only [World.size_alloc, World.size_drew]); omega)) | (with_reducible refine Bb.set ?_ rfl) | (with_reducible refine Bb.grown ?_ (by assumption) (by assumption))))
  have Yz : Hid (Bb w3 (w.heap.size + 1) 53 #[.int .i64 0, .slice none 0 0, .slice none 0 0]) := by show Bb _ _ _ _; (repeat' (first | (with_reducible assumption) | (refine Bb.new (by first | (with_reducible rfl) | (simp; done))) | (with_reducible refine Bb.alloc ?_ _) | (with_reducible refine Bb.drew ?_) | (with_reducible refine Bb.drewN ?_ _) | (with_reducible refine Bb.mono ?_ (by assumption)) | (with_reducible refine Bb.far ?_ (by (try simp only [World.size_alloc, World.size_drew]); omega)) | (with_reducible refine Bb.set ?_ rfl) | (with_reducible refine Bb.grown ?_ (by assumption) (by assumption))))
  (try clear Rc)
  (try clear Xc)
  have Xc := Yc
  clear Yc
  (try clear Rz)
  (try clear Xz)
  have Xz := Yz
  clear Yz
  have hB3 : Below w.heap.size w w3 := by (repeat' (first | (with_reducible exact Below.refl _ _) | (with_reducible assumption) | (with_reducible refine Below.alloc ?_ ?_ _) | (with_reducible refine Below.drew ?_) | (with_reducible refine bdN ?_ _) | (with_reducible refine Below.setCell ?_ ?_ _) | (with_reducible refine chn ?_ (by assumption) ?_) | omega | (simp; done) | (simp; omega)))
  clear hb3
  have cc0 := Xc.out.c 0 rfl
  have cc1 := Xc.out.c 1 rfl
  have lc := Xc.out.lt
  have cz0 := Xz.out.c 0 rfl
  have cz1 := Xz.out.c 1 rfl
  have cz2 := Xz.out.c 2 rfl
  have lz := Xz.out.lt
  have fz := Xz.out.f
  have HK1 := lay hK1
  have HK2 := lay hK2
  have lgx := hK1.lt
  have lgz := hK2.lt
  clear hK1 hK2
  go_wp2_with (fail)
  refine (nlp _).mono ?_
  rintro ee w4 ⟨r, rfl, hPh, lr0, hb4⟩
  have hz4 := hb4.size
  (try simp only [World.size_alloc] at hz4)
  clear cc0 cc1 lc cz0 cz1 cz2 lz fz
  have Rc := Xc.out
  have Rz := Xz.out
  have Yc : Hid (Bb w4 (w.heap.size) 58 #[.int .i64 (n : Int), .slice A m c]) := by show Bb _ _ _ _; (repeat' (first | (with_reducible assumption) | (refine Bb.new (by first | (with_reducible rfl) | (simp; done))) | (with_reducible refine Bb.alloc ?_ _) | (with_reducible refine Bb.drew ?_) | (with_reducible refine Bb.drewN ?_ _) | (with_reducible refine Bb.mono ?_ (by assumption)) | (with_reducible refine Bb.far ?_ (by (try simp only [World.size_alloc, World.size_drew]); omega)) | (with_reducible refine Bb.set ?_ rfl) | (with_reducible refine Bb.grown ?_ (by assumption) (by assumption))))
  have Yz : Hid (Bb w4 (w.heap.size + 1) 53 #[.int .i64 0, .slice none 0 0, .slice none 0 0]) := by show Bb _ _ _ _; (repeat' (first | (with_reducible assumption) | (refine Bb.new (by first | (with_reducible rfl) | (simp; done))) | (with_reducible refine Bb.alloc ?_ _) | (with_reducible refine Bb.drew ?_) | (with_reducible refine Bb.drewN ?_ _) | (with_reducible refine Bb.mono ?_ (by assumption)) | (with_reducible refine Bb.far ?_ (by (try simp only [World.size_alloc, World.size_drew]); omega)) | (with_reducible refine Bb.set ?_ rfl) | (with_reducible refine Bb.grown ?_ (by assumption) (by assumption))))
  (try clear Rc)
  (try clear Xc)
  have Xc := Yc
  clear Yc
  (try clear Rz)
  (try clear Xz)
  have Xz := Yz
  clear Yz
  have hB4 : Below w.heap.size w w4 := by (repeat' (first | (with_reducible exact Below.refl _ _) | (with_reducible assumption) | (with_reducible refine Below.alloc ?_ ?_ _) | (with_reducible refine Below.drew ?_) | (with_reducible refine bdN ?_ _) | (with_reducible refine Below.setCell ?_ ?_ _) | (with_reducible refine chn ?_ (by assumption) ?_) | omega | (simp; done) | (simp; omega)))
  have ZK1 := lay (HK1.out.mono hb4)
  clear HK1
  have HK1 := ZK1
  clear ZK1
  have ZK2 := lay (HK2.out.mono hb4)
  clear HK2
  have HK2 := ZK2
  clear ZK2
  clear hb4
  have cc0 := Xc.out.c 0 rfl
  have cc1 := Xc.out.c 1 rfl
  have lc := Xc.out.lt
  have cz0 := Xz.out.c 0 rfl
  have cz1 := Xz.out.c 1 rfl
  have cz2 := Xz.out.c 2 rfl
  have lz := Xz.out.lt
  have fz := Xz.out.f
  have HPh := lay hPh
  have lr := hPh.lt
  clear hPh
  go_wp2_with (fail)
  go_loopg [24] m (fun k s24 wr => ∃ (j gx gz : Nat), j + k = m ∧ s24 = .int .i64 (j : Int) ∧ w.heap.size + 2 ≤ gx ∧ w.heap.size + 2 ≤ gz ∧ gx ≠ gz ∧ gx ≠ w4.heap.size ∧ gz ≠ w4.heap.size ∧ Hid (Bb wr (w.heap.size) 58 #[.int .i64 (n : Int), .slice A m c]) ∧ Hid (Bb wr (w.heap.size + 1) 53 #[.int .i64 0, .slice none 0 0, .slice none 0 0]) ∧ Hid (Bb wr (w4.heap.size) 53 #[.int .i64 (n : Int), .slice (some ⟨gx, 0, none⟩) n n, .slice (some ⟨gz, 0, none⟩) n n]) ∧ Hid (Bk pauliE wr gx 43 (tauT n gs j).1) ∧ Hid (Bk pauliE wr gz 43 (tauT n gs j).2) ∧ Hid (PhM 63 wr r) ∧ w4.heap.size + 1 ≤ wr.heap.size ∧ Below w.heap.size w wr)
  case atStart =>
    have R1 := Xc.out
    have R2 := Xz.out
    have K1 := HK1.out
    have K2 := HK2.out
    have P1 := HPh.out
    refine ⟨0, gx, gz, by omega, rfl, by omega, by omega, hne, by omega, by omega, ?_, ?_, ?_, ?_, ?_, ?_, by simp, ?_⟩
    · show Bb _ _ _ _; exact R1.alloc _
    · show Bb _ _ _ _; exact R2.alloc _
    · show Bb _ _ _ _; exact Bb.new rfl
    · show Bk _ _ _ _ _; exact K1.alloc _
    · show Bk _ _ _ _ _; exact K2.alloc _
    · show PhM _ _ _; exact P1.alloc _
    · (repeat' (first | (with_reducible exact Below.refl _ _) | (with_reducible assumption) | (with_reducible refine Below.alloc ?_ ?_ _) | (with_reducible refine Below.drew ?_) | (with_reducible refine bdN ?_ _) | (with_reducible refine Below.setCell ?_ ?_ _) | (with_reducible refine chn ?_ (by assumption) ?_) | omega | (simp; done) | (simp; omega)))
  case round =>
    obtain ⟨j, gx, gz, hj, rfl, g1, g2, g3, g4, g5, Rc, Rz, Ro, RX, RZ, RP, hwz, hB⟩ := hrel
    clear cc0 cc1 cz0 cz1 cz2 lc lz fz
    clear Xc Xz HK1 HK2 HPh lgx lgz hne l1 l2
    have hBr := hB.size
    have cc0 := Rc.out.c 0 rfl
    have cc1 := Rc.out.c 1 rfl
    have cz0 := Rz.out.c 0 rfl
    have cz1 := Rz.out.c 1 rfl
    have cz2 := Rz.out.c 2 rfl
    have co0 := Ro.out.c 0 rfl
    have co1 := Ro.out.c 1 rfl
    have co2 := Ro.out.c 2 rfl
    have lc := Rc.out.lt
    have lz := Rz.out.lt
    have lo := Ro.out.lt
    cases gk with
    | zero =>
      obtain rfl : m = j := by omega
      have fz := Rz.out.f
      have K1 := RX.out
      have K2 := RZ.out
      go_upto_region 9 with (fail)
      (repeat (first | go_values | go_skip | go_guarded | go_step | go_upon))
      refine bodyPost_ret (v := .tuple #[tableauV n (some ⟨gx, 0, none⟩) n n (some ⟨gz, 0, none⟩) n n, .bool true]) (by first | (simp [results, Try.results32, go_sem, *]; done) | (simp (disch := (first | omega | (simp; done) | (simp; omega))) [results, Try.results32, go_sem, *]; done) | (simp only [results, Try.results32]; go_simp; done)) rfl ⟨_, _, _, _, rfl, ?_, ?_, ?_, ?_⟩
      · exact Bk.ow (((K1.far (by show gx ≠ w.heap.size + 1; omega) _).far (by show gx ≠ w.heap.size + 1; omega) _).far (by show gx ≠ w.heap.size + 1; omega) _) (by omega)
      · exact Bk.ow (((K2.far (by show gz ≠ w.heap.size + 1; omega) _).far (by show gz ≠ w.heap.size + 1; omega) _).far (by show gz ≠ w.heap.size + 1; omega) _) (by omega)
      · intro r h1 h2; cases h1; cases h2; exact g3 rfl
      · (repeat' (first | (with_reducible exact Below.refl _ _) | (with_reducible assumption) | (with_reducible refine Below.alloc ?_ ?_ _) | (with_reducible refine Below.drew ?_) | (with_reducible refine bdN ?_ _) | (with_reducible refine Below.setCell ?_ ?_ _) | (with_reducible refine chn ?_ (by assumption) ?_) | omega | (simp; done) | (simp; omega)))
    | succ mm =>
      have hlt : j < m := by omega
      have jl : (j : Int) < (m : Int) := by omega
      obtain ⟨x, hx⟩ : ∃ x, gs[j]? = some x := ⟨_, List.getElem?_eq_getElem (by rw [HN.out]; exact hlt)⟩
      obtain ⟨g, o, rfl, hgw, hC⟩ := HA.out.atGate hx
      obtain ⟨p0, p1, p2⟩ := hC
      have x0 : wr.cell? ⟨g, o + j * 3, none⟩ = some (.int .i64 x.f0) := (World.cell?_of_block (hB.block _ hgw)).trans p0
      have x1 : wr.cell? ⟨g, o + j * 3 + 1, none⟩ = some (.int .i64 x.f1) := (World.cell?_of_block (hB.block _ hgw)).trans p1
      have x2 : wr.cell? ⟨g, o + j * 3 + 2, none⟩ = some (.int .i64 x.f2) := (World.cell?_of_block (hB.block _ hgw)).trans p2
      have hGx := HG.out j x hx
      obtain ⟨og1, og2⟩ := okL_g q5 hGx
      obtain ⟨ok1, ok2⟩ := tauT_ok q1 q5 HG.out j (by rw [HN.out]; omega)
      have HGx := lay hGx
      have OG1 := lay og1
      have OG2 := lay og2
      have OK1 := lay ok1
      have OK2 := lay ok2
      have HTS := lay (tauT_s (n := n) hx)
      clear hx p0 p1 p2 hGx og1 og2 ok1 ok2
      go_upto_region 7 with (fail)
      obtain ⟨W7, hW⟩ : ∃ W : World, W = wr.alloc (.cells #[.int .i64 x.f0, .int .i64 x.f1, .int .i64 x.f2] 116) := ⟨_, rfl⟩
      obtain ⟨X, hX⟩ : ∃ X, X = wr.heap.size := ⟨_, rfl⟩
      have XC7 : Hid (Bb W7 (w.heap.size) 58 #[.int .i64 (n : Int), .slice (some ⟨g, o, none⟩) m c]) := by show Bb _ _ _ _; rw [hW]; exact Rc.out.alloc _
      have XZ7 : Hid (Bb W7 (w.heap.size + 1) 53 #[.int .i64 0, .slice none 0 0, .slice none 0 0]) := by show Bb _ _ _ _; rw [hW]; exact Rz.out.alloc _
      have XO7 : Hid (Bb W7 (w4.heap.size) 53 #[.int .i64 (n : Int), .slice (some ⟨gx, 0, none⟩) n n, .slice (some ⟨gz, 0, none⟩) n n]) := by show Bb _ _ _ _; rw [hW]; exact Ro.out.alloc _
      have XX7 : Hid (Bb W7 (X) 116 #[.int .i64 x.f0, .int .i64 x.f1, .int .i64 x.f2]) := by show Bb _ _ _ _; rw [hW]; exact Bb.new hX
      have GX7 := lay (show Bk pauliE W7 gx 43 (tauT n gs j).1 by rw [hW]; exact RX.out.alloc _)
      have GZ7 := lay (show Bk pauliE W7 gz 43 (tauT n gs j).2 by rw [hW]; exact RZ.out.alloc _)
      have PH7 := lay (show PhM 63 W7 r by rw [hW]; exact RP.out.alloc _)
      have hB7 : Below w.heap.size w W7 := by rw [hW]; exact hB.alloc hBr _
      have hz7 : wr.heap.size + 1 ≤ W7.heap.size := by rw [hW]; simp
      rw [← hW, ← hX]
      have hXl : wr.heap.size ≤ X := by omega
      clear hW hX x0 x1 x2 Rc Rz Ro RX RZ RP
      clear cc0 cc1 cz0 cz1 cz2 co0 co1 co2 lc lz lo 
      have cc0 := XC7.out.c 0 rfl
      have co0 := XO7.out.c 0 rfl
      have co1 := XO7.out.c 1 rfl
      have co2 := XO7.out.c 2 rfl
      have cx0 := XX7.out.c 0 rfl
      have cx1 := XX7.out.c 1 rfl
      have cx2 := XX7.out.c 2 rfl
      have ycc0 : W7.drew.cell? ⟨w.heap.size, 0, none⟩ = some (.int .i64 (n : Int)) := cc0
      have yco0 : W7.drew.cell? ⟨w4.heap.size, 0, none⟩ = some (.int .i64 (n : Int)) := co0
      have yco1 : W7.drew.cell? ⟨w4.heap.size, 1, none⟩ = some (.slice (some ⟨gx, 0, none⟩) n n) := co1
      have yco2 : W7.drew.cell? ⟨w4.heap.size, 2, none⟩ = some (.slice (some ⟨gz, 0, none⟩) n n) := co2
      have ycx0 : W7.drew.cell? ⟨X, 0, none⟩ = some (.int .i64 x.f0) := cx0
      have ycx1 : W7.drew.cell? ⟨X, 1, none⟩ = some (.int .i64 x.f1) := cx1
      have ycx2 : W7.drew.cell? ⟨X, 2, none⟩ = some (.int .i64 x.f2) := cx2
      refine wp_region_x (fun w' => w'.cell? ⟨w.heap.size, 0, none⟩ = some (.int .i64 (n : Int)) ∧ w'.cell? ⟨w4.heap.size, 0, none⟩ = some (.int .i64 (n : Int)) ∧ w'.cell? ⟨w4.heap.size, 1, none⟩ = some (.slice (some ⟨gx, 0, none⟩) n n) ∧ w'.cell? ⟨w4.heap.size, 2, none⟩ = some (.slice (some ⟨gz, 0, none⟩) n n) ∧ w'.cell? ⟨X, 0, none⟩ = some (.int .i64 x.f0) ∧ w'.cell? ⟨X, 1, none⟩ = some (.int .i64 x.f1) ∧ w'.cell? ⟨X, 2, none⟩ = some (.int .i64 x.f2)) 7 (by kernel_rfl) ⟨ycc0, yco0, yco1, yco2, ycx0, ycx1, ycx2⟩ (fun hS0 => ?_)
      refine wpAnyX_take (i := 0) (oi := _) (v := ?_) rfl (by kernel_rfl) (by kernel_rfl) (by kernel_rfl) (by kernel_rfl) (fun _ _ _ h => h) (Or.inl ⟨by rfl, ?_⟩) hS0 ?_
      rotate_left 1
      · (intro w hSw; (try dsimp only at hSw); go_simp; (try with_reducible rfl))
      try simp only [Act.put, List.setIfInBounds_toArray, List.set_cons_zero, List.set_cons_succ]
      refine wpAnyX_take (i := 1) (oi := _) (v := ?_) rfl (by kernel_rfl) (by kernel_rfl) (by kernel_rfl) (by kernel_rfl) (fun _ _ _ h => h) (Or.inl ⟨by rfl, ?_⟩) hS0 ?_
      rotate_left 1
      · (intro w hSw; (try dsimp only at hSw); go_simp; (try with_reducible rfl))
      try simp only [Act.put, List.setIfInBounds_toArray, List.set_cons_zero, List.set_cons_succ]
      refine wpAnyX_take (i := 2) (oi := _) (v := ?_) rfl (by kernel_rfl) (by kernel_rfl) (by kernel_rfl) (by kernel_rfl) (fun _ _ _ h => h) (Or.inl ⟨by rfl, ?_⟩) hS0 ?_
      rotate_left 1
      · (intro w hSw; (try dsimp only at hSw); go_simp; (try with_reducible rfl))
      try simp only [Act.put, List.setIfInBounds_toArray, List.set_cons_zero, List.set_cons_succ]
      refine wpAnyX_take (i := 3) (oi := _) (v := ?_) rfl (by kernel_rfl) (by kernel_rfl) (by kernel_rfl) (by kernel_rfl) (fun _ _ _ h => h) (Or.inl ⟨by rfl, ?_⟩) hS0 ?_
      rotate_left 1
      · (intro w hSw; (try dsimp only at hSw); go_simp; (try with_reducible rfl))
      try simp only [Act.put, List.setIfInBounds_toArray, List.set_cons_zero, List.set_cons_succ]
      refine wpAnyX_take (i := 4) (oi := _) (v := ?_) rfl (by kernel_rfl) (by kernel_rfl) (by kernel_rfl) (by kernel_rfl) (fun _ _ _ h => h) (Or.inl ⟨by rfl, ?_⟩) hS0 ?_
      rotate_left 1
      · (intro w hSw; (try dsimp only at hSw); go_simp; (try with_reducible rfl))
      try simp only [Act.put, List.setIfInBounds_toArray, List.set_cons_zero, List.set_cons_succ]
      refine wpAnyX_one (i := 5) (o := _) rfl (by kernel_rfl) (fun K hK => ?_)
      go_simp
      refine (gti_g (g := x) q1 q5 HGx.out _).mono ?_
      rintro ee w8 ⟨hx8, hz8, rfl, hK1, hK2, m1, m2, hne8, hb8⟩
      have k8 : Below W7.heap.size W7 w8 := ⟨hb8.os, hb8.tape, hb8.output, hb8.size, hb8.block⟩
      have K1 := lay hK1
      have K2 := lay hK2
      clear hK1 hK2
      refine hK.out _ _ (fun _ => ?_) (fun hS1 => ?_)
      · exact ⟨kcl hb8 (hS0.1), kcl hb8 (hS0.2.1), kcl hb8 (hS0.2.2.1), kcl hb8 (hS0.2.2.2.1), kcl hb8 (hS0.2.2.2.2.1), kcl hb8 (hS0.2.2.2.2.2.1), kcl hb8 (hS0.2.2.2.2.2.2)⟩
      clear hK K
      have hS1 := hS1 (by decide)
      try simp only [Act.put, List.setIfInBounds_toArray, List.set_cons_zero, List.set_cons_succ]
      refine wpAnyX_one (i := 6) (o := _) rfl (by kernel_rfl) (fun K hK => ?_)
      go_simp
      refine (icomp (xs := (tauT n gs j).1) (zs := (tauT n gs j).2) (us := gLX n x) (vs := gLZ n x) q1 q5 (PH7.out.mono k8) ?_ ?_ ?_ ?_ OK1.out OK2.out OG1.out OG2.out).mono ?_
      · exact (GX7.out.mono k8).rd
      · exact (GZ7.out.mono k8).rd
      · exact K1.out.rd
      · exact K2.out.rd
      rintro ee w9 ⟨gx2, gz2, rfl, hK1, hK2, l1, l2, hne2, hb9⟩
      have k9 : Below W7.heap.size W7 w9 := chn k8 hb9 k8.size
      have hz9 := k9.size
      have hz8s := k8.size
      have M1 := lay hK1
      have M2 := lay hK2
      clear hK1 hK2
      refine hK.out _ _ (fun _ => ?_) (fun hS2 => ?_)
      · exact ⟨kcl hb9 (hS1.1), kcl hb9 (hS1.2.1), kcl hb9 (hS1.2.2.1), kcl hb9 (hS1.2.2.2.1), kcl hb9 (hS1.2.2.2.2.1), kcl hb9 (hS1.2.2.2.2.2.1), kcl hb9 (hS1.2.2.2.2.2.2)⟩
      clear hK K
      have hS2 := hS2 (by decide)
      try simp only [Act.put, List.setIfInBounds_toArray, List.set_cons_zero, List.set_cons_succ]
      refine wpAnyX_one (i := 7) (o := _) rfl (by kernel_rfl) (fun K hK => ?_)
      have XO9 := XO7.out.mono k9
      have mo0 := XO9.c 0 rfl
      have mo1 := XO9.c 1 rfl
      have mo2 := XO9.c 2 rfl
      have mof := XO9.f
      have mol := XO9.lt
      go_simp
      refine hK.out _ _ (fun h => absurd rfl h) (fun _ => ?_)
      clear hK K
      try simp only [Act.put, List.setIfInBounds_toArray, List.set_cons_zero, List.set_cons_succ]
      refine wpAnyX_done (by kernel_rfl) ?_ _
      go_wp2_with (fail)
      go_roundg mm
      case measure => omega
      case rel =>
        have hB9 := chn hB7 k9 hB7.size
        refine ⟨j + 1, gx2, gz2, by omega, by go_num, by omega, by omega, hne2, by omega, by omega, ?_, ?_, ?_, ?_, ?_, ?_, by (try simp only [World.size_setCell]); omega, ?_⟩
        · show Bb _ _ _ _; exact (((XC7.out.mono k9).far (by omega)).far (by omega)).far (by omega)
        · show Bb _ _ _ _; exact (((XZ7.out.mono k9).far (by omega)).far (by omega)).far (by omega)
        · show Bb _ _ _ _; exact ((XO9.set rfl).set rfl).set rfl
        · show Bk _ _ _ _ _; rw [HTS.out]; exact ((M1.out.far (by show gx2 ≠ w4.heap.size; omega) _).far (by show gx2 ≠ w4.heap.size; omega) _).far (by show gx2 ≠ w4.heap.size; omega) _
        · show Bk _ _ _ _ _; rw [HTS.out]; exact ((M2.out.far (by show gz2 ≠ w4.heap.size; omega) _).far (by show gz2 ≠ w4.heap.size; omega) _).far (by show gz2 ≠ w4.heap.size; omega) _
        · show PhM _ _ _; exact (((PH7.out.mono k9).far (by omega)).far (by omega)).far (by omega)
        · exact Below.setCell (Below.setCell (Below.setCell hB9 (by show w.heap.size ≤ w4.heap.size; omega) _) (by show w.heap.size ≤ w4.heap.size; omega) _) (by show w.heap.size ≤ w4.heap.size; omega) _

end Go.Proofs.Ytjedpeoafpljhaa.C4
