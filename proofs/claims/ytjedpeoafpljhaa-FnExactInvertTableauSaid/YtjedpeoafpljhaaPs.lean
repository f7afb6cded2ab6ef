/- The model's product of Pauli operators. -/
import Derived.Test.YtjedpeoafpljhaaPl
import Derived.Test.YtjedpeoafpljhaaRgx
namespace Go.Proofs.Ytjedpeoafpljhaa.C4
open Go.RowKit
set_option linter.unusedVariables false
set_option linter.unusedSimpArgs false
attribute [local irreducible] World.setCell

set_option maxRecDepth 100000 in
set_option maxHeartbeats 4000000 in
theorem l7m {pa xa za pb xb zb : Nat} (hpa : pa ≤ 100) (hpb : pb ≤ 100) (h1 : xa < 32) (h2 : za < 32) (h3 : xb < 32) (h4 : zb < 32) (w : World) :
    Calls Try.prog 183 #[pA pa xa za, pA pb xb zb] w fun ee w' => ee = .returned (mulV pa xa za pb xb zb).v ∧ Below w.heap.size w w' := by
  obtain ⟨X, hX⟩ : ∃ X, X = xa ^^^ xb := ⟨_, rfl⟩
  obtain ⟨Z, hZ⟩ : ∃ Z, Z = za ^^^ zb := ⟨_, rfl⟩
  have e1 : bits .xor .i64 (xa : Int) (xb : Int) = (X : Int) := by rw [hX]; exact bx h1 h3
  have e2 : bits .xor .i64 (za : Int) (zb : Int) = (Z : Int) := by rw [hZ]; exact bx h2 h4
  have HX := lay hX
  have HZ := lay hZ
  clear hX hZ
  obtain ⟨s0, hs0⟩ : ∃ s : Nat, s = pa + pb := ⟨_, rfl⟩
  have e3 : (pa : Int) + (pb : Int) = (s0 : Int) := by omega
  have HS0 := lay hs0
  have s0b : s0 ≤ 200 := by omega
  clear hs0
  go_enter Try.func183, Try.ntmps183
  go_wp2_with (fail)
  go_loopg [6] 5 (fun k s1 wr => ∃ j s : Nat, j + k = 5 ∧ s1 = .int .i64 (j : Int) ∧ Hid (s = s0 + sgs xa za xb zb j) ∧ Hid (Bb wr (w.heap.size) 43 #[.int .i64 (pa : Int), .int .i64 (xa : Int), .int .i64 (za : Int)]) ∧ Hid (Bb wr (w.heap.size + 1) 43 #[.int .i64 (pb : Int), .int .i64 (xb : Int), .int .i64 (zb : Int)]) ∧ Hid (Bb wr (w.heap.size + 1 + 1) 43 #[.int .i64 0, .int .i64 0, .int .i64 0]) ∧ Hid (Bb wr (w.heap.size + 1 + 1 + 1) 43 #[.int .i64 (s : Int), .int .i64 (X : Int), .int .i64 (Z : Int)]) ∧ w.heap.size + 1 + 1 + 1 + 1 ≤ wr.heap.size ∧ Below w.heap.size w wr)
  case atStart => exact ⟨0, s0, by omega, rfl, rfl, (by show Bb _ _ _ _; (repeat' (first | (with_reducible assumption) | (refine Bb.new (by first | (with_reducible rfl) | (simp; done))) | (with_reducible refine Bb.alloc ?_ _) | (with_reducible refine Bb.drew ?_) | (with_reducible refine Bb.drewN ?_ _) | (with_reducible refine Bb.mono ?_ (by assumption)) | (with_reducible refine Bb.far ?_ (by (try simp only [World.size_alloc, World.size_drew]); omega)) | (with_reducible refine Bb.set ?_ rfl) | (with_reducible refine Bb.grown ?_ (by assumption) (by assumption))))), (by show Bb _ _ _ _; (repeat' (first | (with_reducible assumption) | (refine Bb.new (by first | (with_reducible rfl) | (simp; done))) | (with_reducible refine Bb.alloc ?_ _) | (with_reducible refine Bb.drew ?_) | (with_reducible refine Bb.drewN ?_ _) | (with_reducible refine Bb.mono ?_ (by assumption)) | (with_reducible refine Bb.far ?_ (by (try simp only [World.size_alloc, World.size_drew]); omega)) | (with_reducible refine Bb.set ?_ rfl) | (with_reducible refine Bb.grown ?_ (by assumption) (by assumption))))), (by show Bb _ _ _ _; (repeat' (first | (with_reducible assumption) | (refine Bb.new (by first | (with_reducible rfl) | (simp; done))) | (with_reducible refine Bb.alloc ?_ _) | (with_reducible refine Bb.drew ?_) | (with_reducible refine Bb.drewN ?_ _) | (with_reducible refine Bb.mono ?_ (by assumption)) | (with_reducible refine Bb.far ?_ (by (try simp only [World.size_alloc, World.size_drew]); omega)) | (with_reducible refine Bb.set ?_ rfl) | (with_reducible refine Bb.grown ?_ (by assumption) (by assumption))))), (by show Bb _ _ _ _; (repeat' (first | (with_reducible assumption) | (refine Bb.new (by first | (with_reducible rfl) | (simp; done))) | (with_reducible refine Bb.alloc ?_ _) | (with_reducible refine Bb.drew ?_) | (with_reducible refine Bb.drewN ?_ _) | (with_reducible refine Bb.mono ?_ (by assumption)) | (with_reducible refine Bb.far ?_ (by (try simp only [World.size_alloc, World.size_drew]); omega)) | (with_reducible refine Bb.set ?_ rfl) | (with_reducible refine Bb.grown ?_ (by assumption) (by assumption))))), by simp, by (repeat' (first | (with_reducible exact Below.refl _ _) | (with_reducible assumption) | (with_reducible refine Below.alloc ?_ ?_ _) | (with_reducible refine Below.drew ?_) | (with_reducible refine bdN ?_ _) | (with_reducible refine Below.setCell ?_ ?_ _) | (with_reducible refine chn ?_ (by assumption) ?_) | omega | (simp; done) | (simp; omega)))⟩
  case round =>
    obtain ⟨j, s, hj, rfl, HS, Xa, Xb, Xz, Xo, hsz, hB⟩ := hrel
    have sb : s ≤ 220 := by have h9 := HS.out; have := sgs_le xa za xb zb j; omega
    have hBq := hB.size
    have ca0 := Xa.out.c 0 rfl
    have ca1 := Xa.out.c 1 rfl
    have ca2 := Xa.out.c 2 rfl
    have la := Xa.out.lt
    have cb0 := Xb.out.c 0 rfl
    have cb1 := Xb.out.c 1 rfl
    have cb2 := Xb.out.c 2 rfl
    have lb := Xb.out.lt
    have cz0 := Xz.out.c 0 rfl
    have cz1 := Xz.out.c 1 rfl
    have cz2 := Xz.out.c 2 rfl
    have lz := Xz.out.lt
    have fz := Xz.out.f
    have co0 := Xo.out.c 0 rfl
    have co1 := Xo.out.c 1 rfl
    have co2 := Xo.out.c 2 rfl
    have lo := Xo.out.lt
    have fo := Xo.out.f
    cases gk with
    | zero =>
      obtain rfl : j = 5 := by omega
      have hm : ((s : Int)).tmod 4 = ((s % 4 : Nat) : Int) := by rw [Int.tmod_eq_emod_of_nonneg (by omega)]; omega
      obtain ⟨r, hr⟩ : ∃ r, r = s % 4 := ⟨_, rfl⟩
      rw [← hr] at hm
      have hm2 : (s : Int) % 4 = (r : Int) := by omega
      have HR : Hid ((mulV pa xa za pb xb zb) = pv r X Z) := by
        show mulV pa xa za pb xb zb = pv r X Z
        unfold mulV mp
        rw [hr, HS.out, HS0.out, HX.out, HZ.out]
      clear hr
      go_wp2_with (fail)
      refine bodyPost_ret (v := pA r X Z) (by first | (simp [results, Try.results183, go_sem, *]; done) | (simp (disch := (first | omega | (simp; done) | (simp; omega))) [results, Try.results183, go_sem, *]; done) | (simp only [results, Try.results183]; go_simp; done)) rfl ⟨?_, ?_⟩
      · rw [HR.out]
      · (repeat' (first | (with_reducible exact Below.refl _ _) | (with_reducible assumption) | (with_reducible refine Below.alloc ?_ ?_ _) | (with_reducible refine Below.drew ?_) | (with_reducible refine bdN ?_ _) | (with_reducible refine Below.setCell ?_ ?_ _) | (with_reducible refine chn ?_ (by assumption) ?_) | omega | (simp; done) | (simp; omega)))
    | succ m =>
      have hlt : j < 5 := by omega
      have jl : (j : Int) < 5 := by omega
      have hl1 := lt_4 xa za j
      have hl2 := lt_4 xb zb j
      have hg3 := sg_3 (lt xa za j) (lt xb zb j)
      obtain ⟨g, hg⟩ : ∃ g, g = sg (lt xa za j) (lt xb zb j) := ⟨_, rfl⟩
      rw [← hg] at hg3
      have es : IntKind.i64.wrap ((s : Int) + (g : Int)) = ((s + g : Nat) : Int) := by rw [Int.natCast_add]; exact IntWalk.i64_in _ (by omega)
      go_wp2_with (fail)
      have yca0 : wr.drew.cell? ⟨w.heap.size, 0, none⟩ = some (.int .i64 (pa : Int)) := ca0
      have yca1 : wr.drew.cell? ⟨w.heap.size, 1, none⟩ = some (.int .i64 (xa : Int)) := ca1
      have yca2 : wr.drew.cell? ⟨w.heap.size, 2, none⟩ = some (.int .i64 (za : Int)) := ca2
      have ycb0 : wr.drew.cell? ⟨w.heap.size + 1, 0, none⟩ = some (.int .i64 (pb : Int)) := cb0
      have ycb1 : wr.drew.cell? ⟨w.heap.size + 1, 1, none⟩ = some (.int .i64 (xb : Int)) := cb1
      have ycb2 : wr.drew.cell? ⟨w.heap.size + 1, 2, none⟩ = some (.int .i64 (zb : Int)) := cb2
      have yco0 : wr.drew.cell? ⟨w.heap.size + 1 + 1 + 1, 0, none⟩ = some (.int .i64 (s : Int)) := co0
      have yco1 : wr.drew.cell? ⟨w.heap.size + 1 + 1 + 1, 1, none⟩ = some (.int .i64 (X : Int)) := co1
      have yco2 : wr.drew.cell? ⟨w.heap.size + 1 + 1 + 1, 2, none⟩ = some (.int .i64 (Z : Int)) := co2
      refine wp_region_x (fun w' => w'.cell? ⟨w.heap.size, 0, none⟩ = some (.int .i64 (pa : Int)) ∧ w'.cell? ⟨w.heap.size, 1, none⟩ = some (.int .i64 (xa : Int)) ∧ w'.cell? ⟨w.heap.size, 2, none⟩ = some (.int .i64 (za : Int)) ∧ w'.cell? ⟨w.heap.size + 1, 0, none⟩ = some (.int .i64 (pb : Int)) ∧ w'.cell? ⟨w.heap.size + 1, 1, none⟩ = some (.int .i64 (xb : Int)) ∧ w'.cell? ⟨w.heap.size + 1, 2, none⟩ = some (.int .i64 (zb : Int)) ∧ w'.cell? ⟨w.heap.size + 1 + 1 + 1, 0, none⟩ = some (.int .i64 (s : Int)) ∧ w'.cell? ⟨w.heap.size + 1 + 1 + 1, 1, none⟩ = some (.int .i64 (X : Int)) ∧ w'.cell? ⟨w.heap.size + 1 + 1 + 1, 2, none⟩ = some (.int .i64 (Z : Int))) 11 (by kernel_rfl) ⟨yca0, yca1, yca2, ycb0, ycb1, ycb2, yco0, yco1, yco2⟩ (fun hS0 => ?_)
      refine wpAnyX_take (i := 0) (oi := _) (v := ?_) rfl (by kernel_rfl) (by kernel_rfl) (by kernel_rfl) (by kernel_rfl) (fun _ _ _ h => h) (Or.inl ⟨by rfl, ?_⟩) hS0 ?_
      rotate_left 1
      · (intro w hSw; (try dsimp only at hSw); go_simp; (try with_reducible rfl))
      try simp only [Act.put, List.setIfInBounds_toArray, List.set_cons_zero, List.set_cons_succ]
      refine wpAnyX_take (i := 1) (oi := _) (v := ?_) rfl (by kernel_rfl) (by kernel_rfl) (by kernel_rfl) (by kernel_rfl) (fun _ _ _ h => h) (Or.inl ⟨by rfl, ?_⟩) hS0 ?_
      rotate_left 1
      · (intro w hSw; (try dsimp only at hSw); go_simp; (try with_reducible rfl))
      try simp only [Act.put, List.setIfInBounds_toArray, List.set_cons_zero, List.set_cons_succ]
      refine wpAnyX_take (i := 2) (oi := _) (v := ?_) rfl (by kernel_rfl) (by kernel_rfl) (by kernel_rfl) (by kernel_rfl) (fun _ _ _ h => h) (Or.inl ⟨by rfl, ?_⟩) hS0 ?_
      rotate_left 1
      · (intro w hSw; (try dsimp only at hSw); go_simp; (try with_reducible rfl))
      try simp only [Act.put, List.setIfInBounds_toArray, List.set_cons_zero, List.set_cons_succ]
      refine wpAnyX_take (i := 3) (oi := _) (v := ?_) rfl (by kernel_rfl) (by kernel_rfl) (by kernel_rfl) (by kernel_rfl) (fun _ _ _ h => h) (Or.inl ⟨by rfl, ?_⟩) hS0 ?_
      rotate_left 1
      · (intro w hSw; (try dsimp only at hSw); go_simp; (try with_reducible rfl))
      try simp only [Act.put, List.setIfInBounds_toArray, List.set_cons_zero, List.set_cons_succ]
      refine wpAnyX_take (i := 5) (oi := _) (v := ?_) rfl (by kernel_rfl) (by kernel_rfl) (by kernel_rfl) (by kernel_rfl) (fun _ _ _ h => h) (Or.inl ⟨by rfl, ?_⟩) hS0 ?_
      rotate_left 1
      · (intro w hSw; (try dsimp only at hSw); go_simp; (try with_reducible rfl))
      try simp only [Act.put, List.setIfInBounds_toArray, List.set_cons_zero, List.set_cons_succ]
      refine wpAnyX_take (i := 6) (oi := _) (v := ?_) rfl (by kernel_rfl) (by kernel_rfl) (by kernel_rfl) (by kernel_rfl) (fun _ _ _ h => h) (Or.inl ⟨by rfl, ?_⟩) hS0 ?_
      rotate_left 1
      · (intro w hSw; (try dsimp only at hSw); go_simp; (try with_reducible rfl))
      try simp only [Act.put, List.setIfInBounds_toArray, List.set_cons_zero, List.set_cons_succ]
      refine wpAnyX_one (i := 4) (o := _) rfl (by kernel_rfl) (fun K hK => ?_)
      go_simp
      refine (l7l h1 h2 hlt _).mono ?_
      rintro ee w8 ⟨rfl, hb8⟩
      refine hK.out _ _ (fun _ => ?_) (fun hS1 => ?_)
      · exact ⟨kcl hb8 (hS0.1), kcl hb8 (hS0.2.1), kcl hb8 (hS0.2.2.1), kcl hb8 (hS0.2.2.2.1), kcl hb8 (hS0.2.2.2.2.1), kcl hb8 (hS0.2.2.2.2.2.1), kcl hb8 (hS0.2.2.2.2.2.2.1), kcl hb8 (hS0.2.2.2.2.2.2.2.1), kcl hb8 (hS0.2.2.2.2.2.2.2.2)⟩
      clear hK K
      have hS1 := hS1 (by decide)
      try simp only [Act.put, List.setIfInBounds_toArray, List.set_cons_zero, List.set_cons_succ]
      refine wpAnyX_one (i := 7) (o := _) rfl (by kernel_rfl) (fun K hK => ?_)
      go_simp
      refine (l7l h3 h4 hlt _).mono ?_
      rintro ee w9 ⟨rfl, hb9⟩
      refine hK.out _ _ (fun _ => ?_) (fun hS2 => ?_)
      · exact ⟨kcl hb9 (hS1.1), kcl hb9 (hS1.2.1), kcl hb9 (hS1.2.2.1), kcl hb9 (hS1.2.2.2.1), kcl hb9 (hS1.2.2.2.2.1), kcl hb9 (hS1.2.2.2.2.2.1), kcl hb9 (hS1.2.2.2.2.2.2.1), kcl hb9 (hS1.2.2.2.2.2.2.2.1), kcl hb9 (hS1.2.2.2.2.2.2.2.2)⟩
      clear hK K
      have hS2 := hS2 (by decide)
      try simp only [Act.put, List.setIfInBounds_toArray, List.set_cons_zero, List.set_cons_succ]
      refine wpAnyX_one (i := 8) (o := _) rfl (by kernel_rfl) (fun K hK => ?_)
      go_simp
      refine (l7s hl1 hl2 _).mono ?_
      rintro ee w10 ⟨rfl, hb10⟩
      rw [← hg]
      refine hK.out _ _ (fun _ => ?_) (fun hS3 => ?_)
      · exact ⟨kcl hb10 (hS2.1), kcl hb10 (hS2.2.1), kcl hb10 (hS2.2.2.1), kcl hb10 (hS2.2.2.2.1), kcl hb10 (hS2.2.2.2.2.1), kcl hb10 (hS2.2.2.2.2.2.1), kcl hb10 (hS2.2.2.2.2.2.2.1), kcl hb10 (hS2.2.2.2.2.2.2.2.1), kcl hb10 (hS2.2.2.2.2.2.2.2.2)⟩
      clear hK K
      have hS3 := hS3 (by decide)
      try simp only [Act.put, List.setIfInBounds_toArray, List.set_cons_zero, List.set_cons_succ]
      refine wpAnyX_take (i := 9) (oi := _) (v := ?_) rfl (by kernel_rfl) (by kernel_rfl) (by kernel_rfl) (by kernel_rfl) (fun _ _ _ h => h) (Or.inl ⟨by rfl, ?_⟩) hS3 ?_
      rotate_left 1
      · (intro w hSw; (try dsimp only at hSw); go_simp; (try with_reducible rfl))
      try simp only [Act.put, List.setIfInBounds_toArray, List.set_cons_zero, List.set_cons_succ]
      refine wpAnyX_take (i := 10) (oi := _) (v := ?_) rfl (by kernel_rfl) (by kernel_rfl) (by kernel_rfl) (by kernel_rfl) (fun _ _ _ h => h) (Or.inl ⟨by rfl, ?_⟩) hS3 ?_
      rotate_left 1
      · (intro w hSw; (try dsimp only at hSw); go_simp; (try with_reducible rfl))
      try simp only [Act.put, List.setIfInBounds_toArray, List.set_cons_zero, List.set_cons_succ]
      refine wpAnyX_one (i := 11) (o := _) rfl (by kernel_rfl) (fun K hK => ?_)
      have hW8 : Below wr.heap.size wr w10 := by
        have k8 : Below wr.heap.size wr w8 := ⟨hb8.os, hb8.tape, hb8.output, hb8.size, hb8.block⟩
        exact chn (chn k8 hb9 k8.size) hb10 (chn k8 hb9 k8.size).size
      have fo8 := (Xo.out.mono hW8).f
      go_simp
      refine hK.out _ _ (fun h => absurd rfl h) (fun _ => ?_)
      clear hK K
      try simp only [Act.put, List.setIfInBounds_toArray, List.set_cons_zero, List.set_cons_succ]
      refine wpAnyX_done (by kernel_rfl) ?_ _
      go_wp2_with (fail)
      go_roundg m
      case measure => omega
      case rel =>
        have hz8 := hW8.size
        refine ⟨j + 1, s + g, by omega, by go_num, ?_, (Xa.out.mono hW8).far (by omega), (Xb.out.mono hW8).far (by omega), (Xz.out.mono hW8).far (by omega), (Xo.out.mono hW8).set (by rw [← hg, ← Int.natCast_add]; rfl), by (try simp only [World.size_setCell]); omega, ?_⟩
        · show s + g = s0 + (sgs xa za xb zb j + sg (lt xa za j) (lt xb zb j))
          rw [HS.out, hg]; omega
        · exact Below.setCell (chn hB hW8 hBq) (by show w.heap.size ≤ w.heap.size + 1 + 1 + 1; omega) _

end Go.Proofs.Ytjedpeoafpljhaa.C4
