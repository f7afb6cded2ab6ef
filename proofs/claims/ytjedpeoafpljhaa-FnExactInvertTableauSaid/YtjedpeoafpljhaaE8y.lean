/- InvertTableau: the program. -/
import Derived.Test.YtjedpeoafpljhaaE8w
import Derived.Test.YtjedpeoafpljhaaPtva
import Derived.Test.YtjedpeoafpljhaaPio
import Derived.Test.YtjedpeoafpljhaaPcd
namespace Go.Proofs.Ytjedpeoafpljhaa.C4
open Go.RowKit
set_option linter.unusedVariables false
set_option linter.unusedSimpArgs false
attribute [local irreducible] World.setCell

open GM
def invX (n : Nat) (xs zs : List PauliV) (q : Nat) : PauliV := preV n xs zs (0, pw q, 0)
def invZ (n : Nat) (xs zs : List PauliV) (q : Nat) : PauliV := preV n xs zs (0, 0, pw q)
theorem preV_of {n a b P IX IZ : Nat} {xs zs : List PauliV} (h : imgS (fnd zs (0, a, b) n) (fnd xs (0, a, b) n) xs zs 0 n = (P, IX, IZ)) : pv P (fnd zs (0, a, b) n) (fnd xs (0, a, b) n) = preV n xs zs (0, a, b) := by
  unfold preV; rw [h]
set_option maxRecDepth 100000 in
set_option maxHeartbeats 16000000 in
theorem inv_i_t {n g h c1 c2 : Nat} {xs zs : List PauliV} {w : World} (q1 : 1 ≤ n) (q5 : n ≤ 5) (ht : TOk (n : Int) n n xs zs) (hA : Rd pauliE w (some ⟨g, 0, none⟩) xs) (hB : Rd pauliE w (some ⟨h, 0, none⟩) zs) (hn : xs.length = n) (hm : zs.length = n) :
    Calls Try.prog 41 #[tableauV (n : Int) (some ⟨g, 0, none⟩) n c1 (some ⟨h, 0, none⟩) n c2] w fun ee w' => ∃ (A1 : Option Addr) (k1 : Nat) (A2 : Option Addr) (k2 : Nat), ee = .returned (.tuple #[tableauV n A1 n k1 A2 n k2, .bool true]) ∧ Ow pauliE w' w.heap.size 43 A1 (tab n (invX n xs zs)) ∧ Ow pauliE w' w.heap.size 43 A2 (tab n (invZ n xs zs)) ∧ (∀ r, blk A1 = some r → blk A2 ≠ some r) ∧ Below w.heap.size w w' := by
  have HTT := lay ht
  obtain ⟨oX, oZ⟩ := TOk_L ((TOk_m q1 q5 hn hm).1 ht) hn hm
  have OX := lay oX
  have OZ := lay oZ
  have HA := lay hA
  have HB := lay hB
  have hml : n ≤ maxLen := by unfold maxLen; omega
  clear ht oX oZ hA hB
  go_enter Try.func41, Try.ntmps41
  go_wp2_with (fail)
  refine (ivt_i (t := true) (xs := xs) (zs := zs) ⟨fun _ => HTT.out, fun _ => rfl⟩ ?_ ?_ hn hm hml hml).mono ?_
  · exact HA.out.mono (by (repeat' (first | (with_reducible exact Below.refl _ _) | (with_reducible assumption) | (with_reducible refine Below.alloc ?_ ?_ _) | (with_reducible refine Below.drew ?_) | (with_reducible refine bdN ?_ _) | (with_reducible refine Below.setCell ?_ ?_ _) | (with_reducible refine chn ?_ (by assumption) ?_) | omega | (simp; done) | (simp; omega))))
  · exact HB.out.mono (by (repeat' (first | (with_reducible exact Below.refl _ _) | (with_reducible assumption) | (with_reducible refine Below.alloc ?_ ?_ _) | (with_reducible refine Below.drew ?_) | (with_reducible refine bdN ?_ _) | (with_reducible refine Below.setCell ?_ ?_ _) | (with_reducible refine chn ?_ (by assumption) ?_) | omega | (simp; done) | (simp; omega))))
  rintro ee w1 ⟨rfl, hb1⟩
  have hz1 := hb1.size
  (try simp only [World.size_alloc] at hz1)
  have Yt : Hid (Bb w1 (w.heap.size) 53 #[.int .i64 (n : Int), .slice (some ⟨g, 0, none⟩) n c1, .slice (some ⟨h, 0, none⟩) n c2]) := by show Bb _ _ _ _; (repeat' (first | (with_reducible assumption) | (refine Bb.new (by first | (with_reducible rfl) | (simp; done))) | (with_reducible refine Bb.alloc ?_ _) | (with_reducible refine Bb.drew ?_) | (with_reducible refine Bb.drewN ?_ _) | (with_reducible refine Bb.mono ?_ (by assumption)) | (with_reducible refine Bb.far ?_ (by (try simp only [World.size_alloc, World.size_drew]); omega)) | (with_reducible refine Bb.set ?_ rfl) | (with_reducible refine Bb.grown ?_ (by assumption) (by assumption))))
  have Yz : Hid (Bb w1 (w.heap.size + 1) 53 #[.int .i64 0, .slice none 0 0, .slice none 0 0]) := by show Bb _ _ _ _; (repeat' (first | (with_reducible assumption) | (refine Bb.new (by first | (with_reducible rfl) | (simp; done))) | (with_reducible refine Bb.alloc ?_ _) | (with_reducible refine Bb.drew ?_) | (with_reducible refine Bb.drewN ?_ _) | (with_reducible refine Bb.mono ?_ (by assumption)) | (with_reducible refine Bb.far ?_ (by (try simp only [World.size_alloc, World.size_drew]); omega)) | (with_reducible refine Bb.set ?_ rfl) | (with_reducible refine Bb.grown ?_ (by assumption) (by assumption))))
  (try clear Rt)
  (try clear Xt)
  have Xt := Yt
  clear Yt
  (try clear Rz)
  (try clear Xz)
  have Xz := Yz
  clear Yz
  have hB1 : Below w.heap.size w w1 := by (repeat' (first | (with_reducible exact Below.refl _ _) | (with_reducible assumption) | (with_reducible refine Below.alloc ?_ ?_ _) | (with_reducible refine Below.drew ?_) | (with_reducible refine bdN ?_ _) | (with_reducible refine Below.setCell ?_ ?_ _) | (with_reducible refine chn ?_ (by assumption) ?_) | omega | (simp; done) | (simp; omega)))
  clear hb1
  have ct0 := Xt.out.c 0 rfl
  have ct1 := Xt.out.c 1 rfl
  have ct2 := Xt.out.c 2 rfl
  have lt := Xt.out.lt
  have cz0 := Xz.out.c 0 rfl
  have cz1 := Xz.out.c 1 rfl
  have cz2 := Xz.out.c 2 rfl
  have lz := Xz.out.lt
  have fz := Xz.out.f
  go_wp2_with (fail)
  refine (idt q1 q5 _).mono ?_
  rintro ee w2 ⟨gx, gz, rfl, hK1, hK2, l1, l2, hne, hb2⟩
  have hz2 := hb2.size
  (try simp only [World.size_alloc] at hz2)
  clear ct0 ct1 ct2 lt cz0 cz1 cz2 lz fz
  have Rt := Xt.out
  have Rz := Xz.out
  have Yt : Hid (Bb w2 (w.heap.size) 53 #[.int .i64 (n : Int), .slice (some ⟨g, 0, none⟩) n c1, .slice (some ⟨h, 0, none⟩) n c2]) := by show Bb _ _ _ _; (repeat' (first | (with_reducible assumption) | (refine Bb.new (by first | (with_reducible rfl) | (simp; done))) | (with_reducible refine Bb.alloc ?_ _) | (with_reducible refine Bb.drew ?_) | (with_reducible refine Bb.drewN ?_ _) | (with_reducible refine Bb.mono ?_ (by assumption)) | (with_reducible refine Bb.far ?_ (by (try simp only [World.size_alloc, World.size_drew]); omega)) | (with_reducible refine Bb.set ?_ rfl) | (with_reducible refine Bb.grown ?_ (by assumption) (by assumption))))
  have Yz : Hid (Bb w2 (w.heap.size + 1) 53 #[.int .i64 0, .slice none 0 0, .slice none 0 0]) := by show Bb _ _ _ _; (repeat' (first | (with_reducible assumption) | (refine Bb.new (by first | (with_reducible rfl) | (simp; done))) | (with_reducible refine Bb.alloc ?_ _) | (with_reducible refine Bb.drew ?_) | (with_reducible refine Bb.drewN ?_ _) | (with_reducible refine Bb.mono ?_ (by assumption)) | (with_reducible refine Bb.far ?_ (by (try simp only [World.size_alloc, World.size_drew]); omega)) | (with_reducible refine Bb.set ?_ rfl) | (with_reducible refine Bb.grown ?_ (by assumption) (by assumption))))
  (try clear Rt)
  (try clear Xt)
  have Xt := Yt
  clear Yt
  (try clear Rz)
  (try clear Xz)
  have Xz := Yz
  clear Yz
  have hB2 : Below w.heap.size w w2 := by (repeat' (first | (with_reducible exact Below.refl _ _) | (with_reducible assumption) | (with_reducible refine Below.alloc ?_ ?_ _) | (with_reducible refine Below.drew ?_) | (with_reducible refine bdN ?_ _) | (with_reducible refine Below.setCell ?_ ?_ _) | (with_reducible refine chn ?_ (by assumption) ?_) | omega | (simp; done) | (simp; omega)))
  clear hb2
  have ct0 := Xt.out.c 0 rfl
  have ct1 := Xt.out.c 1 rfl
  have ct2 := Xt.out.c 2 rfl
  have lt := Xt.out.lt
  have cz0 := Xz.out.c 0 rfl
  have cz1 := Xz.out.c 1 rfl
  have cz2 := Xz.out.c 2 rfl
  have lz := Xz.out.lt
  have fz := Xz.out.f
  have HK1 := lay hK1
  have HK2 := lay hK2
  have lgx := hK1.lt
  have lgz := hK2.lt
  clear hK1 hK2
  go_wp2_with (fail)
  refine (nlp _).mono ?_
  rintro ee w3 ⟨r, rfl, hPh, lr0, hb3⟩
  have hz3 := hb3.size
  (try simp only [World.size_alloc] at hz3)
  clear ct0 ct1 ct2 lt cz0 cz1 cz2 lz fz
  have Rt := Xt.out
  have Rz := Xz.out
  have Yt : Hid (Bb w3 (w.heap.size) 53 #[.int .i64 (n : Int), .slice (some ⟨g, 0, none⟩) n c1, .slice (some ⟨h, 0, none⟩) n c2]) := by show Bb _ _ _ _; (repeat' (first | (with_reducible assumption) | (refine Bb.new (by first | (with_reducible rfl) | (simp; done))) | (with_reducible refine Bb.alloc ?_ _) | (with_reducible refine Bb.drew ?_) | (with_reducible refine Bb.drewN ?_ _) | (with_reducible refine Bb.mono ?_ (by assumption)) | (with_reducible refine Bb.far ?_ (by (try simp only [World.size_alloc, World.size_drew]); omega)) | (with_reducible refine Bb.set ?_ rfl) | (with_reducible refine Bb.grown ?_ (by assumption) (by assumption))))
  have Yz : Hid (Bb w3 (w.heap.size + 1) 53 #[.int .i64 0, .slice none 0 0, .slice none 0 0]) := by show Bb _ _ _ _; (repeat' (first | (with_reducible assumption) | (refine Bb.new (by first | (with_reducible rfl) | (simp; done))) | (with_reducible refine Bb.alloc ?_ _) | (with_reducible refine Bb.drew ?_) | (with_reducible refine Bb.drewN ?_ _) | (with_reducible refine Bb.mono ?_ (by assumption)) | (with_reducible refine Bb.far ?_ (by (try simp only [World.size_alloc, World.size_drew]); omega)) | (with_reducible refine Bb.set ?_ rfl) | (with_reducible refine Bb.grown ?_ (by assumption) (by assumption))))
  (try clear Rt)
  (try clear Xt)
  have Xt := Yt
  clear Yt
  (try clear Rz)
  (try clear Xz)
  have Xz := Yz
  clear Yz
  have hB3 : Below w.heap.size w w3 := by (repeat' (first | (with_reducible exact Below.refl _ _) | (with_reducible assumption) | (with_reducible refine Below.alloc ?_ ?_ _) | (with_reducible refine Below.drew ?_) | (with_reducible refine bdN ?_ _) | (with_reducible refine Below.setCell ?_ ?_ _) | (with_reducible refine chn ?_ (by assumption) ?_) | omega | (simp; done) | (simp; omega)))
  have ZK1 := lay (HK1.out.mono hb3)
  clear HK1
  have HK1 := ZK1
  clear ZK1
  have ZK2 := lay (HK2.out.mono hb3)
  clear HK2
  have HK2 := ZK2
  clear ZK2
  clear hb3
  have ct0 := Xt.out.c 0 rfl
  have ct1 := Xt.out.c 1 rfl
  have ct2 := Xt.out.c 2 rfl
  have lt := Xt.out.lt
  have cz0 := Xz.out.c 0 rfl
  have cz1 := Xz.out.c 1 rfl
  have cz2 := Xz.out.c 2 rfl
  have lz := Xz.out.lt
  have fz := Xz.out.f
  have HPh := lay hPh
  have lr := hPh.lt
  clear hPh
  go_wp2_with (fail)
  go_loopg [17] n (fun k s17 wr => ∃ j : Nat, j + k = n ∧ s17 = .int .i64 (j : Int) ∧ Hid (Bb wr (w.heap.size) 53 #[.int .i64 (n : Int), .slice (some ⟨g, 0, none⟩) n c1, .slice (some ⟨h, 0, none⟩) n c2]) ∧ Hid (Bb wr (w.heap.size + 1) 53 #[.int .i64 0, .slice none 0 0, .slice none 0 0]) ∧ Hid (Bb wr (w3.heap.size) 53 #[.int .i64 (n : Int), .slice (some ⟨gx, 0, none⟩) n n, .slice (some ⟨gz, 0, none⟩) n n]) ∧ Hid (Bk pauliE wr gx 43 (mixL (invX n xs zs) genX n j)) ∧ Hid (Bk pauliE wr gz 43 (mixL (invZ n xs zs) genZ n j)) ∧ Hid (PhM 63 wr r) ∧ Below w.heap.size w wr)
  case atStart =>
    have R1 := Xt.out
    have R2 := Xz.out
    have K1 := HK1.out
    have K2 := HK2.out
    have P1 := HPh.out
    refine ⟨0, by omega, rfl, ?_, ?_, ?_, ?_, ?_, ?_, ?_⟩
    · show Bb _ _ _ _; exact R1.alloc _
    · show Bb _ _ _ _; exact R2.alloc _
    · show Bb _ _ _ _; exact Bb.new rfl
    · show Bk _ _ _ _ _; rw [mixL_0]; exact K1.alloc _
    · show Bk _ _ _ _ _; rw [mixL_0]; exact K2.alloc _
    · show PhM _ _ _; exact P1.alloc _
    · (repeat' (first | (with_reducible exact Below.refl _ _) | (with_reducible assumption) | (with_reducible refine Below.alloc ?_ ?_ _) | (with_reducible refine Below.drew ?_) | (with_reducible refine bdN ?_ _) | (with_reducible refine Below.setCell ?_ ?_ _) | (with_reducible refine chn ?_ (by assumption) ?_) | omega | (simp; done) | (simp; omega)))
  case round =>
    obtain ⟨j, hj, rfl, Rt, Rz, Ro, Rgx, Rgz, RPh, hB⟩ := hrel
    clear ct0 ct1 ct2 cz0 cz1 cz2 lt lz fz
    clear Xt Xz HK1 HK2 HPh
    have hBs := hB.size
    have ct0 := Rt.out.c 0 rfl
    have ct1 := Rt.out.c 1 rfl
    have ct2 := Rt.out.c 2 rfl
    have cz0 := Rz.out.c 0 rfl
    have cz1 := Rz.out.c 1 rfl
    have cz2 := Rz.out.c 2 rfl
    have co0 := Ro.out.c 0 rfl
    have co1 := Ro.out.c 1 rfl
    have co2 := Ro.out.c 2 rfl
    have lt := Rt.out.lt
    have lz := Rz.out.lt
    have lo := Ro.out.lt
    cases gk with
    | zero =>
      obtain rfl : n = j := by omega
      have fz := Rz.out.f
      have K1 := Rgx.out
      have K2 := Rgz.out
      rw [mixL_n] at K1 K2
      go_upto_region 10 with (fail)
      (repeat (first | go_values | go_skip | go_guarded | go_step | go_upon))
      refine bodyPost_ret (v := .tuple #[tableauV n (some ⟨gx, 0, none⟩) n n (some ⟨gz, 0, none⟩) n n, .bool true]) (by first | (simp [results, Try.results41, go_sem, *]; done) | (simp (disch := (first | omega | (simp; done) | (simp; omega))) [results, Try.results41, go_sem, *]; done) | (simp only [results, Try.results41]; go_simp; done)) rfl ⟨_, _, _, _, rfl, ?_, ?_, ?_, ?_⟩
      · exact Bk.ow (((K1.far (by show gx ≠ w.heap.size + 1; omega) _).far (by show gx ≠ w.heap.size + 1; omega) _).far (by show gx ≠ w.heap.size + 1; omega) _) (by omega)
      · exact Bk.ow (((K2.far (by show gz ≠ w.heap.size + 1; omega) _).far (by show gz ≠ w.heap.size + 1; omega) _).far (by show gz ≠ w.heap.size + 1; omega) _) (by omega)
      · intro r h1 h2; cases h1; cases h2; exact hne rfl
      · (repeat' (first | (with_reducible exact Below.refl _ _) | (with_reducible assumption) | (with_reducible refine Below.alloc ?_ ?_ _) | (with_reducible refine Below.drew ?_) | (with_reducible refine bdN ?_ _) | (with_reducible refine Below.setCell ?_ ?_ _) | (with_reducible refine chn ?_ (by assumption) ?_) | omega | (simp; done) | (simp; omega)))
    | succ m =>
      have hlt : j < n := by omega
      have jl : (j : Int) < (n : Int) := by omega
      have hpw : pw j < 2 ^ n := Nat.pow_lt_pow_right (by decide) hlt
      have hp0 : 0 < 2 ^ n := Nat.two_pow_pos n
      obtain ⟨⟨P1, IX1, IZ1⟩, hq1⟩ : ∃ s : St, imgS (fnd zs (0, pw j, 0) n) (fnd xs (0, pw j, 0) n) xs zs 0 n = s := ⟨_, rfl⟩
      obtain ⟨⟨P2, IX2, IZ2⟩, hq2⟩ : ∃ s : St, imgS (fnd zs (0, 0, pw j) n) (fnd xs (0, 0, pw j) n) xs zs 0 n = s := ⟨_, rfl⟩
      have VX : Hid (pv P1 (fnd zs (0, pw j, 0) n) (fnd xs (0, pw j, 0) n) = invX n xs zs j) := preV_of hq1
      have VZ : Hid (pv P2 (fnd zs (0, 0, pw j) n) (fnd xs (0, 0, pw j) n) = invZ n xs zs j) := preV_of hq2
      have hr1 := lay hq1
      have hr2 := lay hq2
      clear hq1 hq2
      go_upto_region 7 with (fail)
      obtain ⟨e0', e1', e2'⟩ := Bk.atPauli (k := j) (x := genX j) Rgx.out (mixL_at hlt)
      have e0 : wr.cell? ⟨gx, j * 3, none⟩ = some (.int .i64 0) := e0'
      have e1 : wr.cell? ⟨gx, j * 3 + 1, none⟩ = some (.int .i64 ((pw j : Nat) : Int)) := e1'
      have e2 : wr.cell? ⟨gx, j * 3 + 2, none⟩ = some (.int .i64 0) := e2'
      clear e0' e1' e2'
      have yct0 : wr.drew.cell? ⟨w.heap.size, 0, none⟩ = some (.int .i64 (n : Int)) := ct0
      have yct1 : wr.drew.cell? ⟨w.heap.size, 1, none⟩ = some (.slice (some ⟨g, 0, none⟩) n c1) := ct1
      have yct2 : wr.drew.cell? ⟨w.heap.size, 2, none⟩ = some (.slice (some ⟨h, 0, none⟩) n c2) := ct2
      have yco0 : wr.drew.cell? ⟨w3.heap.size, 0, none⟩ = some (.int .i64 (n : Int)) := co0
      have yco1 : wr.drew.cell? ⟨w3.heap.size, 1, none⟩ = some (.slice (some ⟨gx, 0, none⟩) n n) := co1
      have yco2 : wr.drew.cell? ⟨w3.heap.size, 2, none⟩ = some (.slice (some ⟨gz, 0, none⟩) n n) := co2
      have ye0 : wr.drew.cell? ⟨gx, j * 3, none⟩ = some (.int .i64 0) := e0
      have ye1 : wr.drew.cell? ⟨gx, j * 3 + 1, none⟩ = some (.int .i64 ((pw j : Nat) : Int)) := e1
      have ye2 : wr.drew.cell? ⟨gx, j * 3 + 2, none⟩ = some (.int .i64 0) := e2
      refine wp_region_x (fun w' => w'.cell? ⟨w.heap.size, 0, none⟩ = some (.int .i64 (n : Int)) ∧ w'.cell? ⟨w.heap.size, 1, none⟩ = some (.slice (some ⟨g, 0, none⟩) n c1) ∧ w'.cell? ⟨w.heap.size, 2, none⟩ = some (.slice (some ⟨h, 0, none⟩) n c2) ∧ w'.cell? ⟨w3.heap.size, 0, none⟩ = some (.int .i64 (n : Int)) ∧ w'.cell? ⟨w3.heap.size, 1, none⟩ = some (.slice (some ⟨gx, 0, none⟩) n n) ∧ w'.cell? ⟨w3.heap.size, 2, none⟩ = some (.slice (some ⟨gz, 0, none⟩) n n) ∧ w'.cell? ⟨gx, j * 3, none⟩ = some (.int .i64 0) ∧ w'.cell? ⟨gx, j * 3 + 1, none⟩ = some (.int .i64 ((pw j : Nat) : Int)) ∧ w'.cell? ⟨gx, j * 3 + 2, none⟩ = some (.int .i64 0)) 12 (by kernel_rfl) ⟨yct0, yct1, yct2, yco0, yco1, yco2, ye0, ye1, ye2⟩ (fun hS0 => ?_)
      refine wpAnyX_take (i := 0) (oi := _) (v := ?_) rfl (by kernel_rfl) (by kernel_rfl) (by kernel_rfl) (by kernel_rfl) (fun _ _ _ h => h) (Or.inl ⟨by rfl, ?_⟩) hS0 ?_
      rotate_left 1
      · (intro w hSw; (try dsimp only at hSw); go_simp; (try with_reducible rfl))
      try simp only [Act.put, List.setIfInBounds_toArray, List.set_cons_zero, List.set_cons_succ]
      refine wpAnyX_take (i := 1) (oi := _) (v := ?_) rfl (by kernel_rfl) (by kernel_rfl) (by kernel_rfl) (by kernel_rfl) (fun _ _ _ h => h) (Or.inl ⟨by rfl, ?_⟩) hS0 ?_
      rotate_left 1
      · (intro w hSw; (try dsimp only at hSw); go_simp; (try with_reducible rfl))
      try simp only [Act.put, List.setIfInBounds_toArray, List.set_cons_zero, List.set_cons_succ]
      refine wpAnyX_take (i := 2) (oi := _) (v := ?_) rfl (by kernel_rfl) (by kernel_rfl) (by kernel_rfl) (by kernel_rfl) (fun _ _ _ h => h) (Or.inl ⟨by rfl, ?_⟩) hS0 ?_
      rotate_left 1
      · (intro w hSw; (try dsimp only at hSw); go_simp; (try with_reducible rfl))
      try simp only [Act.put, List.setIfInBounds_toArray, List.set_cons_zero, List.set_cons_succ]
      refine wpAnyX_take (i := 3) (oi := _) (v := ?_) rfl (by kernel_rfl) (by kernel_rfl) (by kernel_rfl) (by kernel_rfl) (fun _ _ _ h => h) (Or.inl ⟨by rfl, ?_⟩) hS0 ?_
      rotate_left 1
      · (intro w hSw; (try dsimp only at hSw); go_simp; (try with_reducible rfl))
      try simp only [Act.put, List.setIfInBounds_toArray, List.set_cons_zero, List.set_cons_succ]
      refine wpAnyX_take (i := 4) (oi := _) (v := ?_) rfl (by kernel_rfl) (by kernel_rfl) (by kernel_rfl) (by kernel_rfl) (fun _ _ _ h => h) (Or.inl ⟨by rfl, ?_⟩) hS0 ?_
      rotate_left 1
      · (intro w hSw; (try dsimp only at hSw); go_simp; (try with_reducible rfl))
      try simp only [Act.put, List.setIfInBounds_toArray, List.set_cons_zero, List.set_cons_succ]
      refine wpAnyX_take (i := 5) (oi := _) (v := ?_) rfl (by kernel_rfl) (by kernel_rfl) (by kernel_rfl) (by kernel_rfl) (fun _ _ _ h => h) (Or.inl ⟨by rfl, ?_⟩) hS0 ?_
      rotate_left 1
      · (intro w hSw; (try dsimp only at hSw); go_simp; (try with_reducible rfl))
      try simp only [Act.put, List.setIfInBounds_toArray, List.set_cons_zero, List.set_cons_succ]
      refine wpAnyX_take (i := 6) (oi := _) (v := ?_) rfl (by kernel_rfl) (by kernel_rfl) (by kernel_rfl) (by kernel_rfl) (fun _ _ _ h => h) (Or.inl ⟨by rfl, ?_⟩) hS0 ?_
      rotate_left 1
      · (intro w hSw; (try dsimp only at hSw); go_simp; (try with_reducible rfl))
      try simp only [Act.put, List.setIfInBounds_toArray, List.set_cons_zero, List.set_cons_succ]
      refine wpAnyX_take (i := 7) (oi := _) (v := ?_) rfl (by kernel_rfl) (by kernel_rfl) (by kernel_rfl) (by kernel_rfl) (fun _ _ _ h => h) (Or.inl ⟨by rfl, ?_⟩) hS0 ?_
      rotate_left 1
      · (intro w hSw; (try dsimp only at hSw); go_simp; (try with_reducible rfl))
      try simp only [Act.put, List.setIfInBounds_toArray, List.set_cons_zero, List.set_cons_succ]
      refine wpAnyX_take (i := 8) (oi := _) (v := ?_) rfl (by kernel_rfl) (by kernel_rfl) (by kernel_rfl) (by kernel_rfl) (fun _ _ _ h => h) (Or.inl ⟨by rfl, ?_⟩) hS0 ?_
      rotate_left 1
      · (intro w hSw; (try dsimp only at hSw); go_simp; (try with_reducible rfl))
      try simp only [Act.put, List.setIfInBounds_toArray, List.set_cons_zero, List.set_cons_succ]
      refine wpAnyX_take (i := 9) (oi := _) (v := ?_) rfl (by kernel_rfl) (by kernel_rfl) (by kernel_rfl) (by kernel_rfl) (fun _ _ _ h => h) (Or.inl ⟨by rfl, ?_⟩) hS0 ?_
      rotate_left 1
      · (intro w hSw; (try dsimp only at hSw); go_simp; (try with_reducible rfl))
      try simp only [Act.put, List.setIfInBounds_toArray, List.set_cons_zero, List.set_cons_succ]
      refine wpAnyX_one (i := 10) (o := _) rfl (by kernel_rfl) (fun K hK => ?_)
      go_simp
      refine (ppre (xs := xs) (zs := zs) (PX := pw j) (PZ := 0) q5 RPh.out.drew (hpw) (hp0) ?_ ?_ OX.out OZ.out hr1.out).mono ?_
      · exact (show Rd pauliE wr _ xs from HA.out.mono hB)
      · exact (show Rd pauliE wr _ zs from HB.out.mono hB)
      rintro ee w5 ⟨rfl, hb9⟩
      have kw5 : Below wr.heap.size wr w5 := ⟨hb9.os, hb9.tape, hb9.output, hb9.size, hb9.block⟩
      have hzw5 := kw5.size
      refine hK.out _ _ (fun _ => ?_) (fun hS1 => ?_)
      · exact ⟨kcl hb9 (hS0.1), kcl hb9 (hS0.2.1), kcl hb9 (hS0.2.2.1), kcl hb9 (hS0.2.2.2.1), kcl hb9 (hS0.2.2.2.2.1), kcl hb9 (hS0.2.2.2.2.2.1), kcl hb9 (hS0.2.2.2.2.2.2.1), kcl hb9 (hS0.2.2.2.2.2.2.2.1), kcl hb9 (hS0.2.2.2.2.2.2.2.2)⟩
      clear hK K
      have hS1 := hS1 (by decide)
      try simp only [Act.put, List.setIfInBounds_toArray, List.set_cons_zero, List.set_cons_succ]
      refine wpAnyX_take (i := 11) (oi := _) (v := ?_) rfl (by kernel_rfl) (by kernel_rfl) (by kernel_rfl) (by kernel_rfl) (fun _ _ _ h => h) (Or.inl ⟨by rfl, ?_⟩) hS1 ?_
      rotate_left 1
      · (intro w hSw; (try dsimp only at hSw); go_simp; (try with_reducible rfl))
      change wpAnyX _ _ _ _ _ _ _ _ (Act.put _ (some 31) _) _
      try simp only [Act.put, List.setIfInBounds_toArray, List.set_cons_zero, List.set_cons_succ]
      refine wpAnyX_one (i := 12) (o := _) rfl (by kernel_rfl) (fun K hK => ?_)
      have K9 := (Rgx.out.mono kw5)
      obtain ⟨t0, t1, t2⟩ := Bk.atPauli (k := j) (x := genX j) K9 (mixL_at hlt)
      have tf := K9.fr
      have tl := K9.lt
      go_simp
      refine hK.out _ _ (fun h => absurd rfl h) (fun _ => ?_)
      clear hK K
      try simp only [Act.put, List.setIfInBounds_toArray, List.set_cons_zero, List.set_cons_succ]
      refine wpAnyX_done (by kernel_rfl) ?_ _
      go_upto_region 8 with (fail)
      obtain ⟨W6, hW⟩ : ∃ W : World, W = ((w5.setCell ⟨gx, j * 3, none⟩ (.int .i64 (P1 : Int))).setCell ⟨gx, j * 3 + 1, none⟩ (.int .i64 ((fnd zs (0, pw j, 0) n : Nat) : Int))).setCell ⟨gx, j * 3 + 2, none⟩ (.int .i64 ((fnd xs (0, pw j, 0) n : Nat) : Int)) := ⟨_, rfl⟩
      have St : Hid (Bb W6 (w.heap.size) 53 #[.int .i64 (n : Int), .slice (some ⟨g, 0, none⟩) n c1, .slice (some ⟨h, 0, none⟩) n c2]) := by show Bb _ _ _ _; rw [hW]; exact (((Rt.out.mono kw5).far (by omega)).far (by omega)).far (by omega)
      have Sz : Hid (Bb W6 (w.heap.size + 1) 53 #[.int .i64 0, .slice none 0 0, .slice none 0 0]) := by show Bb _ _ _ _; rw [hW]; exact (((Rz.out.mono kw5).far (by omega)).far (by omega)).far (by omega)
      have So : Hid (Bb W6 (w3.heap.size) 53 #[.int .i64 (n : Int), .slice (some ⟨gx, 0, none⟩) n n, .slice (some ⟨gz, 0, none⟩) n n]) := by show Bb _ _ _ _; rw [hW]; exact (((Ro.out.mono kw5).far (by omega)).far (by omega)).far (by omega)
      have Sgx : Hid (Bk pauliE W6 gx 43 (mixL (invX n xs zs) genX n (j + 1))) := by show Bk _ _ _ _ _; rw [hW, ← mixL_set hlt, ← VX.out]; exact Bk.stPauli (k := j) (Rgx.out.mono kw5) (pv P1 (fnd zs (0, pw j, 0) n) (fnd xs (0, pw j, 0) n)) (by rw [mixL_len]; exact hlt)
      have Sgz : Hid (Bk pauliE W6 gz 43 (mixL (invZ n xs zs) genZ n j)) := by show Bk _ _ _ _ _; rw [hW]; exact (((Rgz.out.mono kw5).far (by show gz ≠ gx; omega) _).far (by show gz ≠ gx; omega) _).far (by show gz ≠ gx; omega) _
      have SPh : Hid (PhM 63 W6 r) := by show PhM _ _ _; rw [hW]; exact (((RPh.out.mono kw5).far (by omega)).far (by omega)).far (by omega)
      have hBS : Below w.heap.size w W6 := by rw [hW]; exact Below.setCell (Below.setCell (Below.setCell (chn hB kw5 hB.size) (by show w.heap.size ≤ gx; omega) _) (by show w.heap.size ≤ gx; omega) _) (by show w.heap.size ≤ gx; omega) _
      rw [← hW]
      clear hW K9 t0 t1 t2 tf tl e0 e1 e2 hb9 hS0 hS1
      clear ct0 ct1 ct2 cz0 cz1 cz2 co0 co1 co2 lt lz lo 
      have ct0 := St.out.c 0 rfl
      have ct1 := St.out.c 1 rfl
      have ct2 := St.out.c 2 rfl
      have cz0 := Sz.out.c 0 rfl
      have cz1 := Sz.out.c 1 rfl
      have cz2 := Sz.out.c 2 rfl
      have co0 := So.out.c 0 rfl
      have co1 := So.out.c 1 rfl
      have co2 := So.out.c 2 rfl
      have lt := St.out.lt
      have lz := Sz.out.lt
      have lo := So.out.lt
      obtain ⟨e0', e1', e2'⟩ := Bk.atPauli (k := j) (x := genZ j) Sgz.out (mixL_at hlt)
      have e0 : W6.cell? ⟨gz, j * 3, none⟩ = some (.int .i64 0) := e0'
      have e1 : W6.cell? ⟨gz, j * 3 + 1, none⟩ = some (.int .i64 0) := e1'
      have e2 : W6.cell? ⟨gz, j * 3 + 2, none⟩ = some (.int .i64 ((pw j : Nat) : Int)) := e2'
      clear e0' e1' e2'
      have yct0 : W6.drew.cell? ⟨w.heap.size, 0, none⟩ = some (.int .i64 (n : Int)) := ct0
      have yct1 : W6.drew.cell? ⟨w.heap.size, 1, none⟩ = some (.slice (some ⟨g, 0, none⟩) n c1) := ct1
      have yct2 : W6.drew.cell? ⟨w.heap.size, 2, none⟩ = some (.slice (some ⟨h, 0, none⟩) n c2) := ct2
      have yco0 : W6.drew.cell? ⟨w3.heap.size, 0, none⟩ = some (.int .i64 (n : Int)) := co0
      have yco1 : W6.drew.cell? ⟨w3.heap.size, 1, none⟩ = some (.slice (some ⟨gx, 0, none⟩) n n) := co1
      have yco2 : W6.drew.cell? ⟨w3.heap.size, 2, none⟩ = some (.slice (some ⟨gz, 0, none⟩) n n) := co2
      have ye0 : W6.drew.cell? ⟨gz, j * 3, none⟩ = some (.int .i64 0) := e0
      have ye1 : W6.drew.cell? ⟨gz, j * 3 + 1, none⟩ = some (.int .i64 0) := e1
      have ye2 : W6.drew.cell? ⟨gz, j * 3 + 2, none⟩ = some (.int .i64 ((pw j : Nat) : Int)) := e2
      refine wp_region_x (fun w' => w'.cell? ⟨w.heap.size, 0, none⟩ = some (.int .i64 (n : Int)) ∧ w'.cell? ⟨w.heap.size, 1, none⟩ = some (.slice (some ⟨g, 0, none⟩) n c1) ∧ w'.cell? ⟨w.heap.size, 2, none⟩ = some (.slice (some ⟨h, 0, none⟩) n c2) ∧ w'.cell? ⟨w3.heap.size, 0, none⟩ = some (.int .i64 (n : Int)) ∧ w'.cell? ⟨w3.heap.size, 1, none⟩ = some (.slice (some ⟨gx, 0, none⟩) n n) ∧ w'.cell? ⟨w3.heap.size, 2, none⟩ = some (.slice (some ⟨gz, 0, none⟩) n n) ∧ w'.cell? ⟨gz, j * 3, none⟩ = some (.int .i64 0) ∧ w'.cell? ⟨gz, j * 3 + 1, none⟩ = some (.int .i64 0) ∧ w'.cell? ⟨gz, j * 3 + 2, none⟩ = some (.int .i64 ((pw j : Nat) : Int))) 12 (by kernel_rfl) ⟨yct0, yct1, yct2, yco0, yco1, yco2, ye0, ye1, ye2⟩ (fun hS0 => ?_)
      refine wpAnyX_take (i := 0) (oi := _) (v := ?_) rfl (by kernel_rfl) (by kernel_rfl) (by kernel_rfl) (by kernel_rfl) (fun _ _ _ h => h) (Or.inl ⟨by rfl, ?_⟩) hS0 ?_
      rotate_left 1
      · (intro w hSw; (try dsimp only at hSw); go_simp; (try with_reducible rfl))
      try simp only [Act.put, List.setIfInBounds_toArray, List.set_cons_zero, List.set_cons_succ]
      refine wpAnyX_take (i := 1) (oi := _) (v := ?_) rfl (by kernel_rfl) (by kernel_rfl) (by kernel_rfl) (by kernel_rfl) (fun _ _ _ h => h) (Or.inl ⟨by rfl, ?_⟩) hS0 ?_
      rotate_left 1
      · (intro w hSw; (try dsimp only at hSw); go_simp; (try with_reducible rfl))
      try simp only [Act.put, List.setIfInBounds_toArray, List.set_cons_zero, List.set_cons_succ]
      refine wpAnyX_take (i := 2) (oi := _) (v := ?_) rfl (by kernel_rfl) (by kernel_rfl) (by kernel_rfl) (by kernel_rfl) (fun _ _ _ h => h) (Or.inl ⟨by rfl, ?_⟩) hS0 ?_
      rotate_left 1
      · (intro w hSw; (try dsimp only at hSw); go_simp; (try with_reducible rfl))
      try simp only [Act.put, List.setIfInBounds_toArray, List.set_cons_zero, List.set_cons_succ]
      refine wpAnyX_take (i := 3) (oi := _) (v := ?_) rfl (by kernel_rfl) (by kernel_rfl) (by kernel_rfl) (by kernel_rfl) (fun _ _ _ h => h) (Or.inl ⟨by rfl, ?_⟩) hS0 ?_
      rotate_left 1
      · (intro w hSw; (try dsimp only at hSw); go_simp; (try with_reducible rfl))
      try simp only [Act.put, List.setIfInBounds_toArray, List.set_cons_zero, List.set_cons_succ]
      refine wpAnyX_take (i := 4) (oi := _) (v := ?_) rfl (by kernel_rfl) (by kernel_rfl) (by kernel_rfl) (by kernel_rfl) (fun _ _ _ h => h) (Or.inl ⟨by rfl, ?_⟩) hS0 ?_
      rotate_left 1
      · (intro w hSw; (try dsimp only at hSw); go_simp; (try with_reducible rfl))
      try simp only [Act.put, List.setIfInBounds_toArray, List.set_cons_zero, List.set_cons_succ]
      refine wpAnyX_take (i := 5) (oi := _) (v := ?_) rfl (by kernel_rfl) (by kernel_rfl) (by kernel_rfl) (by kernel_rfl) (fun _ _ _ h => h) (Or.inl ⟨by rfl, ?_⟩) hS0 ?_
      rotate_left 1
      · (intro w hSw; (try dsimp only at hSw); go_simp; (try with_reducible rfl))
      try simp only [Act.put, List.setIfInBounds_toArray, List.set_cons_zero, List.set_cons_succ]
      refine wpAnyX_take (i := 6) (oi := _) (v := ?_) rfl (by kernel_rfl) (by kernel_rfl) (by kernel_rfl) (by kernel_rfl) (fun _ _ _ h => h) (Or.inl ⟨by rfl, ?_⟩) hS0 ?_
      rotate_left 1
      · (intro w hSw; (try dsimp only at hSw); go_simp; (try with_reducible rfl))
      try simp only [Act.put, List.setIfInBounds_toArray, List.set_cons_zero, List.set_cons_succ]
      refine wpAnyX_take (i := 7) (oi := _) (v := ?_) rfl (by kernel_rfl) (by kernel_rfl) (by kernel_rfl) (by kernel_rfl) (fun _ _ _ h => h) (Or.inl ⟨by rfl, ?_⟩) hS0 ?_
      rotate_left 1
      · (intro w hSw; (try dsimp only at hSw); go_simp; (try with_reducible rfl))
      try simp only [Act.put, List.setIfInBounds_toArray, List.set_cons_zero, List.set_cons_succ]
      refine wpAnyX_take (i := 8) (oi := _) (v := ?_) rfl (by kernel_rfl) (by kernel_rfl) (by kernel_rfl) (by kernel_rfl) (fun _ _ _ h => h) (Or.inl ⟨by rfl, ?_⟩) hS0 ?_
      rotate_left 1
      · (intro w hSw; (try dsimp only at hSw); go_simp; (try with_reducible rfl))
      try simp only [Act.put, List.setIfInBounds_toArray, List.set_cons_zero, List.set_cons_succ]
      refine wpAnyX_take (i := 9) (oi := _) (v := ?_) rfl (by kernel_rfl) (by kernel_rfl) (by kernel_rfl) (by kernel_rfl) (fun _ _ _ h => h) (Or.inl ⟨by rfl, ?_⟩) hS0 ?_
      rotate_left 1
      · (intro w hSw; (try dsimp only at hSw); go_simp; (try with_reducible rfl))
      try simp only [Act.put, List.setIfInBounds_toArray, List.set_cons_zero, List.set_cons_succ]
      refine wpAnyX_one (i := 10) (o := _) rfl (by kernel_rfl) (fun K hK => ?_)
      go_simp
      refine (ppre (xs := xs) (zs := zs) (PX := 0) (PZ := pw j) q5 SPh.out.drew (hp0) (hpw) ?_ ?_ OX.out OZ.out hr2.out).mono ?_
      · exact (show Rd pauliE W6 _ xs from HA.out.mono hBS)
      · exact (show Rd pauliE W6 _ zs from HB.out.mono hBS)
      rintro ee w7 ⟨rfl, hb9⟩
      have kw7 : Below W6.heap.size W6 w7 := ⟨hb9.os, hb9.tape, hb9.output, hb9.size, hb9.block⟩
      have hzw7 := kw7.size
      refine hK.out _ _ (fun _ => ?_) (fun hS1 => ?_)
      · exact ⟨kcl hb9 (hS0.1), kcl hb9 (hS0.2.1), kcl hb9 (hS0.2.2.1), kcl hb9 (hS0.2.2.2.1), kcl hb9 (hS0.2.2.2.2.1), kcl hb9 (hS0.2.2.2.2.2.1), kcl hb9 (hS0.2.2.2.2.2.2.1), kcl hb9 (hS0.2.2.2.2.2.2.2.1), kcl hb9 (hS0.2.2.2.2.2.2.2.2)⟩
      clear hK K
      have hS1 := hS1 (by decide)
      try simp only [Act.put, List.setIfInBounds_toArray, List.set_cons_zero, List.set_cons_succ]
      refine wpAnyX_take (i := 11) (oi := _) (v := ?_) rfl (by kernel_rfl) (by kernel_rfl) (by kernel_rfl) (by kernel_rfl) (fun _ _ _ h => h) (Or.inl ⟨by rfl, ?_⟩) hS1 ?_
      rotate_left 1
      · (intro w hSw; (try dsimp only at hSw); go_simp; (try with_reducible rfl))
      change wpAnyX _ _ _ _ _ _ _ _ (Act.put _ (some 43) _) _
      try simp only [Act.put, List.setIfInBounds_toArray, List.set_cons_zero, List.set_cons_succ]
      refine wpAnyX_one (i := 12) (o := _) rfl (by kernel_rfl) (fun K hK => ?_)
      have K9 := (Sgz.out.mono kw7)
      obtain ⟨t0, t1, t2⟩ := Bk.atPauli (k := j) (x := genZ j) K9 (mixL_at hlt)
      have tf := K9.fr
      have tl := K9.lt
      go_simp
      refine hK.out _ _ (fun h => absurd rfl h) (fun _ => ?_)
      clear hK K
      try simp only [Act.put, List.setIfInBounds_toArray, List.set_cons_zero, List.set_cons_succ]
      refine wpAnyX_done (by kernel_rfl) ?_ _
      go_wp2_with (fail)
      obtain ⟨W8, hW⟩ : ∃ W : World, W = ((w7.setCell ⟨gz, j * 3, none⟩ (.int .i64 (P2 : Int))).setCell ⟨gz, j * 3 + 1, none⟩ (.int .i64 ((fnd zs (0, 0, pw j) n : Nat) : Int))).setCell ⟨gz, j * 3 + 2, none⟩ (.int .i64 ((fnd xs (0, 0, pw j) n : Nat) : Int)) := ⟨_, rfl⟩
      have Tt : Hid (Bb W8 (w.heap.size) 53 #[.int .i64 (n : Int), .slice (some ⟨g, 0, none⟩) n c1, .slice (some ⟨h, 0, none⟩) n c2]) := by show Bb _ _ _ _; rw [hW]; exact (((St.out.mono kw7).far (by omega)).far (by omega)).far (by omega)
      have Tz : Hid (Bb W8 (w.heap.size + 1) 53 #[.int .i64 0, .slice none 0 0, .slice none 0 0]) := by show Bb _ _ _ _; rw [hW]; exact (((Sz.out.mono kw7).far (by omega)).far (by omega)).far (by omega)
      have To : Hid (Bb W8 (w3.heap.size) 53 #[.int .i64 (n : Int), .slice (some ⟨gx, 0, none⟩) n n, .slice (some ⟨gz, 0, none⟩) n n]) := by show Bb _ _ _ _; rw [hW]; exact (((So.out.mono kw7).far (by omega)).far (by omega)).far (by omega)
      have Tgx : Hid (Bk pauliE W8 gx 43 (mixL (invX n xs zs) genX n (j + 1))) := by show Bk _ _ _ _ _; rw [hW]; exact (((Sgx.out.mono kw7).far (by show gx ≠ gz; omega) _).far (by show gx ≠ gz; omega) _).far (by show gx ≠ gz; omega) _
      have Tgz : Hid (Bk pauliE W8 gz 43 (mixL (invZ n xs zs) genZ n (j + 1))) := by show Bk _ _ _ _ _; rw [hW, ← mixL_set hlt, ← VZ.out]; exact Bk.stPauli (k := j) (Sgz.out.mono kw7) (pv P2 (fnd zs (0, 0, pw j) n) (fnd xs (0, 0, pw j) n)) (by rw [mixL_len]; exact hlt)
      have TPh : Hid (PhM 63 W8 r) := by show PhM _ _ _; rw [hW]; exact (((SPh.out.mono kw7).far (by omega)).far (by omega)).far (by omega)
      have hBT : Below w.heap.size w W8 := by rw [hW]; exact Below.setCell (Below.setCell (Below.setCell (chn hBS kw7 hBS.size) (by show w.heap.size ≤ gz; omega) _) (by show w.heap.size ≤ gz; omega) _) (by show w.heap.size ≤ gz; omega) _
      subst hW
      go_roundg m
      case measure => omega
      case rel => exact ⟨j + 1, by omega, by go_num, Tt, Tz, To, Tgx, Tgz, TPh, hBT⟩

end Go.Proofs.Ytjedpeoafpljhaa.C4
