/- QubitWeight: the model. -/
import Derived.Test.YtnjckeadcbfogaaQwd
import Derived.Test.YtnjckeadcbfogaaZp18
import Derived.Test.YtnjckeadcbfogaaZp19
import Derived.Test.YtnjckeadcbfogaaZp14
import Derived.Test.YtnjckeadcbfogaaZp4
import Derived.Test.YtnjckeadcbfogaaZp6
import Derived.Test.YtnjckeadcbfogaaZp25
import Derived.Test.YtnjckeadcbfogaaZp2
import Derived.Test.YtnjckeadcbfogaaZp21
namespace Go.Proofs.Ytnjckeadcbfogaa
open Go.RowKit RM
set_option linter.unusedVariables false
set_option linter.unusedSimpArgs false
attribute [local irreducible] World.setCell

open GM
set_option maxRecDepth 100000 in
set_option maxHeartbeats 8000000 in
theorem qw_s_t {n q : Nat} {s : Int} {A : Option Addr} {m c : Nat} {r t : Int} {k : Nat} {zs : List D5} {w : World} (h1 : ∀ W : World, Below w.heap.size w W → Calls Try.prog 36 #[C4.circuitV (n : Int) A m c, .int .i64 s] W fun ee w' => ∃ (Bo : Option Addr) (cq : Nat), ee = .returned (mt r t Bo k cq true) ∧ Rd w' Bo zs ∧ Below W.heap.size W w') (q1 : 1 ≤ n) (q5 : n ≤ 5) (hK : k = 2 ^ n) (hq : q < n) (hl : zs.length = k) (hall : ∀ (j : Nat) (x : D5), zs[j]? = some x → x.ok = true) :
    Calls Try.prog 45 #[C4.circuitV (n : Int) A m c, .int .i64 s, .int .i64 (q : Int)] w fun ee w' => TR w w' ee (qwF n q zs k) := by
  have hk1 : 1 ≤ k := by rw [hK]; exact Nat.one_le_two_pow
  have hk32 : k ≤ 32 := by rw [hK]; exact Nat.pow_le_pow_right (by decide) q5
  have HL := hid hl
  have HA := hid hall
  have HQ := hid (C4.inB_t (x := (q : Int)) (lo := 0) (hi := (n : Int) - 1) (by omega) (by omega))
  clear hK hl hall
  have H1 := hid h1
  clear h1
  go_enter Try.func45, Try.ntmps45
  go_wp2_with (fail)
  refine (H1.out _ (by (repeat' (first | (with_reducible exact Below.refl _ _) | (with_reducible assumption) | (with_reducible refine Below.alloc ?_ ?_ _) | (with_reducible refine Below.drew ?_) | (with_reducible refine below_drewN ?_ _) | (with_reducible refine Below.setCell ?_ ?_ _) | (with_reducible refine chain ?_ (by assumption) ?_) | omega | (simp; done) | (simp; omega))))).mono ?_
  rintro ee w1 ⟨Bo1, cq1, rfl, hR1, hb1⟩
  have Xa1 : Bx w1 (w.heap.size) 45 #[.int .i64 (n : Int), .slice A m c] := by (repeat' (first | (with_reducible assumption) | (refine Bx.new (by first | (with_reducible rfl) | (simp; done))) | (with_reducible refine Bx.alloc ?_ _) | (with_reducible refine Bx.drew ?_) | (with_reducible refine Bx.drewN ?_ _) | (with_reducible refine Bx.mono ?_ (by assumption)) | (with_reducible refine Bx.badly ?_ (by assumption) (by omega)) | (with_reducible refine Bx.far ?_ (by (try simp only [World.size_alloc, World.size_drew]); omega)) | (with_reducible refine Bx.set ?_ rfl) | (with_reducible refine Bx.grown ?_ (by assumption) (by assumption))))
  have Xz1 : Bx w1 (w.heap.size + 1) 59 #[.int .i64 0, .int .i64 0, .int .i64 0, .int .i64 0, .int .i64 0] := by (repeat' (first | (with_reducible assumption) | (refine Bx.new (by first | (with_reducible rfl) | (simp; done))) | (with_reducible refine Bx.alloc ?_ _) | (with_reducible refine Bx.drew ?_) | (with_reducible refine Bx.drewN ?_ _) | (with_reducible refine Bx.mono ?_ (by assumption)) | (with_reducible refine Bx.badly ?_ (by assumption) (by omega)) | (with_reducible refine Bx.far ?_ (by (try simp only [World.size_alloc, World.size_drew]); omega)) | (with_reducible refine Bx.set ?_ rfl) | (with_reducible refine Bx.grown ?_ (by assumption) (by assumption))))
  have hz1 := hb1.size
  (try simp only [World.size_alloc] at hz1)
  have hw1 : Below w.heap.size w w1 := by (repeat' (first | (with_reducible exact Below.refl _ _) | (with_reducible assumption) | (with_reducible refine Below.alloc ?_ ?_ _) | (with_reducible refine Below.drew ?_) | (with_reducible refine below_drewN ?_ _) | (with_reducible refine Below.setCell ?_ ?_ _) | (with_reducible refine chain ?_ (by assumption) ?_) | omega | (simp; done) | (simp; omega)))
  have HR1 := hid hR1
  have a0' := Xa1.c 0 rfl
  have a1' := Xa1.c 1 rfl
  have la := Xa1.lt
  have lz := Xz1.lt
  have fz := Xz1.f
  have z0' := Xz1.c 0 rfl
  have z1' := Xz1.c 1 rfl
  have z2' := Xz1.c 2 rfl
  have z3' := Xz1.c 3 rfl
  have z4' := Xz1.c 4 rfl
  clear hb1 hR1
  have e3 : IntKind.i64.wrap ((n : Int) - 1) = (n : Int) - 1 := IntWalk.i64_in _ (by omega)
  have Xa2 : Hid (Bx w1 (w.heap.size) 45 #[.int .i64 (n : Int), .slice A m c]) := Xa1
  have Xz2 : Hid (Bx w1 (w.heap.size + 1) 59 #[.int .i64 0, .int .i64 0, .int .i64 0, .int .i64 0, .int .i64 0]) := Xz1
  clear Xa1 Xz1
  go_wp2_with ((go_at_call 97; ((with_reducible refine (C4.lin HQ.out _).mono ?_); rintro ee w3 ⟨rfl, rfl⟩)))
  go_loopg [37] k (fun p s1 wr => ∃ (j : Nat) (s9 : D5) (z : Bool), j + p = k ∧ s1 = .int .i64 (j : Int) ∧ Hid (Bx wr (w.heap.size) 45 #[.int .i64 (n : Int), .slice A m c]) ∧ Hid (Bx wr (w.heap.size + 1) 59 #[.int .i64 0, .int .i64 0, .int .i64 0, .int .i64 0, .int .i64 0]) ∧ Hid (Bx wr (w1.heap.size + 1) 95 #[.bool z]) ∧ Hid (Bx wr (w1.heap.size + 1 + 1) 59 #[.int .i64 s9.a, .int .i64 s9.b, .int .i64 s9.c, .int .i64 s9.d, .int .i64 s9.e]) ∧ Hid (qwF n q zs j = (s9, z)) ∧ Hid (s9.ok = true) ∧ w1.heap.size + 1 + 1 + 1 ≤ wr.heap.size ∧ Below w1.heap.size w1 wr)
  case atStart =>
    have R1 := Xa2.out
    have R2 := Xz2.out
    refine ⟨0, z5, false, by omega, rfl, ?_, ?_, ?_, ?_, rfl, hid z5_ok, ?_, ?_⟩
    · show Bx _ _ _ _; (repeat' (first | (with_reducible assumption) | (with_reducible refine Bx.alloc ?_ _)))
    · show Bx _ _ _ _; (repeat' (first | (with_reducible assumption) | (with_reducible refine Bx.alloc ?_ _)))
    · show Bx _ _ _ _; exact (Bx.new (by simp)).alloc _
    · show Bx _ _ _ _; exact Bx.new (by simp)
    · (try simp only [World.size_alloc]); omega
    · (repeat' (first | (with_reducible exact Below.refl _ _) | (with_reducible assumption) | (with_reducible refine Below.alloc ?_ ?_ _) | (with_reducible refine Below.drew ?_) | (with_reducible refine below_drewN ?_ _) | (with_reducible refine Below.setCell ?_ ?_ _) | (with_reducible refine chain ?_ (by assumption) ?_) | omega | (simp; done) | (simp; omega)))
  case round =>
    obtain ⟨j, s9, z, hj, rfl, Xa, Xz, Xf, Xo, HS, HK, hsz, hBr⟩ := hrel
    clear Xa2 Xz2 a0' a1' z0' z1' z2' z3' z4' la lz fz
    have ca0 := Xa.out.c 0 rfl
    have ca1 := Xa.out.c 1 rfl
    have la := Xa.out.lt
    have fa := Xa.out.f
    have cz0 := Xz.out.c 0 rfl
    have cz1 := Xz.out.c 1 rfl
    have cz2 := Xz.out.c 2 rfl
    have cz3 := Xz.out.c 3 rfl
    have cz4 := Xz.out.c 4 rfl
    have lz := Xz.out.lt
    have fz := Xz.out.f
    have cf0 := Xf.out.c 0 rfl
    have lf := Xf.out.lt
    have ff := Xf.out.f
    have co0 := Xo.out.c 0 rfl
    have co1 := Xo.out.c 1 rfl
    have co2 := Xo.out.c 2 rfl
    have co3 := Xo.out.c 3 rfl
    have co4 := Xo.out.c 4 rfl
    have lo := Xo.out.lt
    have fo := Xo.out.f
    have hB : Below w.heap.size w wr := chain hw1 hBr hw1.size
    have hBs := hBr.size
    cases gk with
    | zero =>
      obtain rfl : j = k := by omega
      cases z
      · go_wp2_with (fail)
        refine (out_t _ _ _ _ _ _ _ (by first | assumption | exact cf0)).mono ?_
        rintro ee w5 ⟨rfl, hb5⟩
        have hz5 := hb5.size
        have Yz := Xz.out.mono hb5
        have dz0 := Yz.c 0 rfl
        have dz1 := Yz.c 1 rfl
        have dz2 := Yz.c 2 rfl
        have dz3 := Yz.c 3 rfl
        have dz4 := Yz.c 4 rfl
        have dzf := Yz.f
        clear Yz
        go_wp2_with (fail)
        refine bodyPost_ret (v := dt s9.a s9.b s9.c s9.d s9.e true) (by first | (simp [results, Try.results45, go_sem, *]; done) | (simp (disch := (first | omega | (simp; done) | (simp; omega))) [results, Try.results45, go_sem, *]; done) | (simp only [results, Try.results45]; go_simp; done)) rfl (TR.t HS.out ?_)
        (repeat' (first | (with_reducible exact Below.refl _ _) | (with_reducible assumption) | (with_reducible refine Below.alloc ?_ ?_ _) | (with_reducible refine Below.drew ?_) | (with_reducible refine below_drewN ?_ _) | (with_reducible refine Below.setCell ?_ ?_ _) | (with_reducible refine chain ?_ (by assumption) ?_) | omega | (simp; done) | (simp; omega)))
      · go_wp2_with (fail)
        refine (out_f _ _ _ _ _ _ _ (by first | assumption | exact cf0)).mono ?_
        rintro ee w5 ⟨rfl, hb5⟩
        have hz5 := hb5.size
        have Yz := Xz.out.mono hb5
        have dz0 := Yz.c 0 rfl
        have dz1 := Yz.c 1 rfl
        have dz2 := Yz.c 2 rfl
        have dz3 := Yz.c 3 rfl
        have dz4 := Yz.c 4 rfl
        have dzf := Yz.f
        clear Yz
        go_wp2_with (fail)
        refine bodyPost_ret (v := dt 0 0 0 0 0 false) (by first | (simp [results, Try.results45, go_sem, *]; done) | (simp (disch := (first | omega | (simp; done) | (simp; omega))) [results, Try.results45, go_sem, *]; done) | (simp only [results, Try.results45]; go_simp; done)) rfl (TR.f (by rw [HS.out]) ?_)
        (repeat' (first | (with_reducible exact Below.refl _ _) | (with_reducible assumption) | (with_reducible refine Below.alloc ?_ ?_ _) | (with_reducible refine Below.drew ?_) | (with_reducible refine below_drewN ?_ _) | (with_reducible refine Below.setCell ?_ ?_ _) | (with_reducible refine chain ?_ (by assumption) ?_) | omega | (simp; done) | (simp; omega)))
    | succ p =>
      have hlt : j < k := by omega
      have jl : (j : Int) < (k : Int) := by omega
      have hx := get_of (xs := zs) (q := j) (by rw [HL.out]; exact hlt)
      obtain ⟨x, hxe⟩ : ∃ x, x = zs.getD j z5 := ⟨_, rfl⟩
      rw [← hxe] at hx
      have HX : Hid (zs.getD j z5 = x) := hid hxe.symm
      have HKx := hid (HA.out _ _ hx)
      obtain ⟨g9, o9, rfl, hC⟩ := HR1.out _ x hx
      have l9 := hC.lt
      obtain ⟨p0, p1, p2, p3, p4⟩ := hC.at_ (hBr.block g9 hC.lt)
      clear hC hx hxe
      rcases bitS_01 (n := n) (c := j) (q := q) with hb | hb
      · have LB : Hid (∀ W : World, Calls Try.prog 107 #[.int .i64 (n : Int), .int .i64 (j : Int), .int .i64 (q : Int)] W fun ee w' => ee = .returned (.int .i64 0) ∧ W = w') := fun W => by have h := lbit (n := n) (q := q) (c := j) (w := W) q5 hq (by omega); rw [hb] at h; exact h
        have HB : Hid (bitI n j q = 0) := hid (by rw [bit_at q5 hq (by omega), hb])
        clear hb
        go_wp2_with ((go_at_call 107; ((with_reducible refine (LB.out _).mono ?_); rintro ee w3 ⟨rfl, rfl⟩)))
        go_roundg p
        case measure => omega
        case rel =>
          have R1 := Xa.out
          have R2 := Xz.out
          have R3 := Xf.out
          have R4 := Xo.out
          refine ⟨j + 1, s9, z, by omega, by go_num, ?_, ?_, ?_, ?_, ?_, HK, ?_, ?_⟩
          · show Bx _ _ _ _; (repeat' (first | (with_reducible assumption) | (refine Bx.new (by first | (with_reducible rfl) | (simp; done))) | (with_reducible refine Bx.alloc ?_ _) | (with_reducible refine Bx.drew ?_) | (with_reducible refine Bx.drewN ?_ _) | (with_reducible refine Bx.mono ?_ (by assumption)) | (with_reducible refine Bx.badly ?_ (by assumption) (by omega)) | (with_reducible refine Bx.far ?_ (by (try simp only [World.size_alloc, World.size_drew]); omega)) | (with_reducible refine Bx.set ?_ rfl) | (with_reducible refine Bx.grown ?_ (by assumption) (by assumption))))
          · show Bx _ _ _ _; (repeat' (first | (with_reducible assumption) | (refine Bx.new (by first | (with_reducible rfl) | (simp; done))) | (with_reducible refine Bx.alloc ?_ _) | (with_reducible refine Bx.drew ?_) | (with_reducible refine Bx.drewN ?_ _) | (with_reducible refine Bx.mono ?_ (by assumption)) | (with_reducible refine Bx.badly ?_ (by assumption) (by omega)) | (with_reducible refine Bx.far ?_ (by (try simp only [World.size_alloc, World.size_drew]); omega)) | (with_reducible refine Bx.set ?_ rfl) | (with_reducible refine Bx.grown ?_ (by assumption) (by assumption))))
          · show Bx _ _ _ _; (repeat' (first | (with_reducible assumption) | (refine Bx.new (by first | (with_reducible rfl) | (simp; done))) | (with_reducible refine Bx.alloc ?_ _) | (with_reducible refine Bx.drew ?_) | (with_reducible refine Bx.drewN ?_ _) | (with_reducible refine Bx.mono ?_ (by assumption)) | (with_reducible refine Bx.badly ?_ (by assumption) (by omega)) | (with_reducible refine Bx.far ?_ (by (try simp only [World.size_alloc, World.size_drew]); omega)) | (with_reducible refine Bx.set ?_ rfl) | (with_reducible refine Bx.grown ?_ (by assumption) (by assumption))))
          · show Bx _ _ _ _; (repeat' (first | (with_reducible assumption) | (refine Bx.new (by first | (with_reducible rfl) | (simp; done))) | (with_reducible refine Bx.alloc ?_ _) | (with_reducible refine Bx.drew ?_) | (with_reducible refine Bx.drewN ?_ _) | (with_reducible refine Bx.mono ?_ (by assumption)) | (with_reducible refine Bx.badly ?_ (by assumption) (by omega)) | (with_reducible refine Bx.far ?_ (by (try simp only [World.size_alloc, World.size_drew]); omega)) | (with_reducible refine Bx.set ?_ rfl) | (with_reducible refine Bx.grown ?_ (by assumption) (by assumption))))
          · show _ = _; rw [qwF_skip HB.out]; exact HS.out
          · (try simp only [World.size_alloc, World.size_setCell]); omega
          · (repeat' (first | (with_reducible exact Below.refl _ _) | (with_reducible assumption) | (with_reducible refine Below.alloc ?_ ?_ _) | (with_reducible refine Below.drew ?_) | (with_reducible refine below_drewN ?_ _) | (with_reducible refine Below.setCell ?_ ?_ _) | (with_reducible refine chain ?_ (by assumption) ?_) | omega | (simp; done) | (simp; omega)))
      · have LB : Hid (∀ W : World, Calls Try.prog 107 #[.int .i64 (n : Int), .int .i64 (j : Int), .int .i64 (q : Int)] W fun ee w' => ee = .returned (.int .i64 1) ∧ W = w') := fun W => by have h := lbit (n := n) (q := q) (c := j) (w := W) q5 hq (by omega); rw [hb] at h; exact h
        have HB : Hid (bitI n j q = 1) := hid (by rw [bit_at q5 hq (by omega), hb])
        clear hb
        go_upto_region 10 with ((go_at_call 107; ((with_reducible refine (LB.out _).mono ?_); rintro ee w3 ⟨rfl, rfl⟩)))
        obtain ⟨W, hW⟩ : ∃ W : World, W = wr.alloc (.cells #[.int .i64 x.a, .int .i64 x.b, .int .i64 x.c, .int .i64 x.d, .int .i64 x.e] 59) := ⟨_, rfl⟩
        have hD0 : Below w1.heap.size w1 W := by rw [hW]; exact hBr.alloc hBs _
        have Za : Bx W (w.heap.size) 45 #[.int .i64 (n : Int), .slice A m c] := by rw [hW]; exact Xa.out.alloc _
        have Zz : Bx W (w.heap.size + 1) 59 #[.int .i64 0, .int .i64 0, .int .i64 0, .int .i64 0, .int .i64 0] := by rw [hW]; exact Xz.out.alloc _
        have Zf : Bx W (w1.heap.size + 1) 95 #[.bool z] := by rw [hW]; exact Xf.out.alloc _
        have Zo : Bx W (w1.heap.size + 1 + 1) 59 #[.int .i64 s9.a, .int .i64 s9.b, .int .i64 s9.c, .int .i64 s9.d, .int .i64 s9.e] := by rw [hW]; exact Xo.out.alloc _
        have Zx : Bx W wr.heap.size 59 #[.int .i64 x.a, .int .i64 x.b, .int .i64 x.c, .int .i64 x.d, .int .i64 x.e] := by rw [hW]; exact Bx.new rfl
        have hWs : W.heap.size = wr.heap.size + 1 := by rw [hW]; simp
        rw [← hW]
        clear hW
        have ro0 := Zo.c 0 rfl
        have ro1 := Zo.c 1 rfl
        have ro2 := Zo.c 2 rfl
        have ro3 := Zo.c 3 rfl
        have ro4 := Zo.c 4 rfl
        have rx0 := Zx.c 0 rfl
        have rx1 := Zx.c 1 rfl
        have rx2 := Zx.c 2 rfl
        have rx3 := Zx.c 3 rfl
        have rx4 := Zx.c 4 rfl
        have yro0 : W.drew.cell? ⟨w1.heap.size + 1 + 1, 0, none⟩ = some (.int .i64 s9.a) := ro0
        have yro1 : W.drew.cell? ⟨w1.heap.size + 1 + 1, 1, none⟩ = some (.int .i64 s9.b) := ro1
        have yro2 : W.drew.cell? ⟨w1.heap.size + 1 + 1, 2, none⟩ = some (.int .i64 s9.c) := ro2
        have yro3 : W.drew.cell? ⟨w1.heap.size + 1 + 1, 3, none⟩ = some (.int .i64 s9.d) := ro3
        have yro4 : W.drew.cell? ⟨w1.heap.size + 1 + 1, 4, none⟩ = some (.int .i64 s9.e) := ro4
        have yrx0 : W.drew.cell? ⟨wr.heap.size, 0, none⟩ = some (.int .i64 x.a) := rx0
        have yrx1 : W.drew.cell? ⟨wr.heap.size, 1, none⟩ = some (.int .i64 x.b) := rx1
        have yrx2 : W.drew.cell? ⟨wr.heap.size, 2, none⟩ = some (.int .i64 x.c) := rx2
        have yrx3 : W.drew.cell? ⟨wr.heap.size, 3, none⟩ = some (.int .i64 x.d) := rx3
        have yrx4 : W.drew.cell? ⟨wr.heap.size, 4, none⟩ = some (.int .i64 x.e) := rx4
        refine wp_region_x (fun w' => w'.cell? ⟨w1.heap.size + 1 + 1, 0, none⟩ = some (.int .i64 s9.a) ∧ w'.cell? ⟨w1.heap.size + 1 + 1, 1, none⟩ = some (.int .i64 s9.b) ∧ w'.cell? ⟨w1.heap.size + 1 + 1, 2, none⟩ = some (.int .i64 s9.c) ∧ w'.cell? ⟨w1.heap.size + 1 + 1, 3, none⟩ = some (.int .i64 s9.d) ∧ w'.cell? ⟨w1.heap.size + 1 + 1, 4, none⟩ = some (.int .i64 s9.e) ∧ w'.cell? ⟨wr.heap.size, 0, none⟩ = some (.int .i64 x.a) ∧ w'.cell? ⟨wr.heap.size, 1, none⟩ = some (.int .i64 x.b) ∧ w'.cell? ⟨wr.heap.size, 2, none⟩ = some (.int .i64 x.c) ∧ w'.cell? ⟨wr.heap.size, 3, none⟩ = some (.int .i64 x.d) ∧ w'.cell? ⟨wr.heap.size, 4, none⟩ = some (.int .i64 x.e)) 8 (by kernel_rfl) ⟨yro0, yro1, yro2, yro3, yro4, yrx0, yrx1, yrx2, yrx3, yrx4⟩ (fun hS0 => ?_)
        refine wpAnyX_take (i := 0) (oi := _) (v := ?_) rfl (by kernel_rfl) (by kernel_rfl) (by kernel_rfl) (by kernel_rfl) (fun _ _ _ h => h) (Or.inl ⟨by rfl, ?_⟩) hS0 ?_
        rotate_left 1
        · (intro w hSw; (try dsimp only at hSw); go_simp; (try with_reducible rfl))
        try simp only [Act.put, List.setIfInBounds_toArray, List.set_cons_zero, List.set_cons_succ]
        refine wpAnyX_take (i := 1) (oi := _) (v := ?_) rfl (by kernel_rfl) (by kernel_rfl) (by kernel_rfl) (by kernel_rfl) (fun _ _ _ h => h) (Or.inl ⟨by rfl, ?_⟩) hS0 ?_
        rotate_left 1
        · (intro w hSw; (try dsimp only at hSw); go_simp; (try with_reducible rfl))
        try simp only [Act.put, List.setIfInBounds_toArray, List.set_cons_zero, List.set_cons_succ]
        refine wpAnyX_take (i := 2) (oi := _) (v := ?_) rfl (by kernel_rfl) (by kernel_rfl) (by kernel_rfl) (by kernel_rfl) (fun _ _ _ h => h) (Or.inl ⟨by rfl, ?_⟩) hS0 ?_
        rotate_left 1
        · (intro w hSw; (try dsimp only at hSw); go_simp; (try with_reducible rfl))
        try simp only [Act.put, List.setIfInBounds_toArray, List.set_cons_zero, List.set_cons_succ]
        refine wpAnyX_take (i := 3) (oi := _) (v := ?_) rfl (by kernel_rfl) (by kernel_rfl) (by kernel_rfl) (by kernel_rfl) (fun _ _ _ h => h) (Or.inl ⟨by rfl, ?_⟩) hS0 ?_
        rotate_left 1
        · (intro w hSw; (try dsimp only at hSw); go_simp; (try with_reducible rfl))
        try simp only [Act.put, List.setIfInBounds_toArray, List.set_cons_zero, List.set_cons_succ]
        refine wpAnyX_take (i := 4) (oi := _) (v := ?_) rfl (by kernel_rfl) (by kernel_rfl) (by kernel_rfl) (by kernel_rfl) (fun _ _ _ h => h) (Or.inl ⟨by rfl, ?_⟩) hS0 ?_
        rotate_left 1
        · (intro w hSw; (try dsimp only at hSw); go_simp; (try with_reducible rfl))
        try simp only [Act.put, List.setIfInBounds_toArray, List.set_cons_zero, List.set_cons_succ]
        refine wpAnyX_one (i := 5) (o := _) rfl (by kernel_rfl) (fun K hK => ?_)
        go_simp
        refine (cjs HKx.out _).mono ?_
        rintro ee v1 ⟨rfl, hv1⟩
        have hd1 := chain hD0 (undr hv1) hD0.size
        have Zf1 := Zf.drew.mono hv1
        have Zo1 := Zo.drew.mono hv1
        have hzv1 := (undr hv1).size
        refine hK.out _ _ (fun _ => ?_) (fun hS1 => ?_)
        · exact ⟨(hv1.cell (World.block_lt_of_cell? _ _ (hS0.1))).trans (hS0.1), (hv1.cell (World.block_lt_of_cell? _ _ (hS0.2.1))).trans (hS0.2.1), (hv1.cell (World.block_lt_of_cell? _ _ (hS0.2.2.1))).trans (hS0.2.2.1), (hv1.cell (World.block_lt_of_cell? _ _ (hS0.2.2.2.1))).trans (hS0.2.2.2.1), (hv1.cell (World.block_lt_of_cell? _ _ (hS0.2.2.2.2.1))).trans (hS0.2.2.2.2.1), (hv1.cell (World.block_lt_of_cell? _ _ (hS0.2.2.2.2.2.1))).trans (hS0.2.2.2.2.2.1), (hv1.cell (World.block_lt_of_cell? _ _ (hS0.2.2.2.2.2.2.1))).trans (hS0.2.2.2.2.2.2.1), (hv1.cell (World.block_lt_of_cell? _ _ (hS0.2.2.2.2.2.2.2.1))).trans (hS0.2.2.2.2.2.2.2.1), (hv1.cell (World.block_lt_of_cell? _ _ (hS0.2.2.2.2.2.2.2.2.1))).trans (hS0.2.2.2.2.2.2.2.2.1), (hv1.cell (World.block_lt_of_cell? _ _ (hS0.2.2.2.2.2.2.2.2.2))).trans (hS0.2.2.2.2.2.2.2.2.2)⟩
        clear hK K
        have hS1 := hS1 (by decide)
        try simp only [Act.put, List.setIfInBounds_toArray, List.set_cons_zero, List.set_cons_succ]
        refine wpAnyX_one (i := 6) (o := _) rfl (by kernel_rfl) (fun K hK => ?_)
        have g0 := Zf1.c 0 rfl
        have g1 := Zf1.f
        go_simp
        refine (cmul (x := x) (y := conj5 x) (z := z) HKx.out (conj_ok HKx.out) (by exact g0) (by exact g1 0)).mono ?_
        clear g0 g1
        rintro ee v2 ⟨rfl, hv2⟩
        have hzv2 := bad_size hv2
        have hd2 := bad_below hd1 hv2 (by omega)
        have Zf2 := Zf1.bad hv2
        have Zo2 := Zo1.badly hv2 (by omega)
        refine hK.out _ _ (fun _ => ?_) (fun hS2 => ?_)
        · exact ⟨kbad hv2 (by omega) (hS1.1), kbad hv2 (by omega) (hS1.2.1), kbad hv2 (by omega) (hS1.2.2.1), kbad hv2 (by omega) (hS1.2.2.2.1), kbad hv2 (by omega) (hS1.2.2.2.2.1), kbad hv2 (by omega) (hS1.2.2.2.2.2.1), kbad hv2 (by omega) (hS1.2.2.2.2.2.2.1), kbad hv2 (by omega) (hS1.2.2.2.2.2.2.2.1), kbad hv2 (by omega) (hS1.2.2.2.2.2.2.2.2.1), kbad hv2 (by omega) (hS1.2.2.2.2.2.2.2.2.2)⟩
        clear hK K
        have hS2 := hS2 (by decide)
        try simp only [Act.put, List.setIfInBounds_toArray, List.set_cons_zero, List.set_cons_succ]
        refine wpAnyX_one (i := 7) (o := _) rfl (by kernel_rfl) (fun K hK => ?_)
        have g0 := Zf2.c 0 rfl
        have g1 := Zf2.f
        go_simp
        refine (cadd (x := s9) (y := (mulS z x (conj5 x)).1) (z := (mulS z x (conj5 x)).2) HK.out (mulS_ok HKx.out (conj_ok HKx.out)) (by exact g0) (by exact g1 0)).mono ?_
        clear g0 g1
        rintro ee v3 ⟨rfl, hv3⟩
        have hzv3 := bad_size hv3
        have hd3 := bad_below hd2 hv3 (by omega)
        have Zf3 := Zf2.bad hv3
        have Zo3 := Zo2.badly hv3 (by omega)
        refine hK.out _ _ (fun _ => ?_) (fun hS3 => ?_)
        · exact ⟨kbad hv3 (by omega) (hS2.1), kbad hv3 (by omega) (hS2.2.1), kbad hv3 (by omega) (hS2.2.2.1), kbad hv3 (by omega) (hS2.2.2.2.1), kbad hv3 (by omega) (hS2.2.2.2.2.1), kbad hv3 (by omega) (hS2.2.2.2.2.2.1), kbad hv3 (by omega) (hS2.2.2.2.2.2.2.1), kbad hv3 (by omega) (hS2.2.2.2.2.2.2.2.1), kbad hv3 (by omega) (hS2.2.2.2.2.2.2.2.2.1), kbad hv3 (by omega) (hS2.2.2.2.2.2.2.2.2.2)⟩
        clear hK K
        have hS3 := hS3 (by decide)
        try simp only [Act.put, List.setIfInBounds_toArray, List.set_cons_zero, List.set_cons_succ]
        refine wpAnyX_one (i := 8) (o := _) rfl (by kernel_rfl) (fun K hK => ?_)
        have yo0 := Zo3.c 0 rfl
        have yo1 := Zo3.c 1 rfl
        have yo2 := Zo3.c 2 rfl
        have yo3 := Zo3.c 3 rfl
        have yo4 := Zo3.c 4 rfl
        have yof := Zo3.f
        go_simp
        refine hK.out _ _ (fun h => absurd rfl h) (fun _ => ?_)
        clear hK K
        try simp only [Act.put, List.setIfInBounds_toArray, List.set_cons_zero, List.set_cons_succ]
        refine wpAnyX_done (by kernel_rfl) ?_ _
        go_wp2_with (fail)
        go_roundg p
        case measure => omega
        case rel =>
          have Va := ((Za.drew.mono hv1).badly hv2 (by omega)).badly hv3 (by omega)
          have Vz := ((Zz.drew.mono hv1).badly hv2 (by omega)).badly hv3 (by omega)
          refine ⟨j + 1, (addS (mulS z x (conj5 x)).2 s9 (mulS z x (conj5 x)).1).1, (addS (mulS z x (conj5 x)).2 s9 (mulS z x (conj5 x)).1).2, by omega, by go_num, Va.far5 _ (by omega), Vz.far5 _ (by omega), Zf3.far5 _ (by omega), Zo3.set5 _, qwF_next HB.out HS.out HX.out, addS_ok HK.out (mulS_ok HKx.out (conj_ok HKx.out)), by (try simp only [World.size_setCell]); omega, ?_⟩
          exact set5_below (x := (addS (mulS z x (conj5 x)).2 s9 (mulS z x (conj5 x)).1).1) hd3 (by omega)
end Go.Proofs.Ytnjckeadcbfogaa
