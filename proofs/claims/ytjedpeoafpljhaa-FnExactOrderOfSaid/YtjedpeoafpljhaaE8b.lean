/- SignOnly: words and the program. -/
import Derived.Test.YtjedpeoafpljhaaPtva
import Derived.Test.YtjedpeoafpljhaaPio
import Derived.Test.YtjedpeoafpljhaaPid
import Derived.Test.YtjedpeoafpljhaaRgx
import Derived.BigQuiet
import Derived.Deep.QuietTactic
import Derived.Deep.DeepCutAuto
namespace Go.Proofs.Ytjedpeoafpljhaa.C4
open Go.RowKit
set_option linter.unusedVariables false
set_option linter.unusedSimpArgs false
attribute [local irreducible] World.setCell

/-- at qubit q the images are the generators up to sign -/
def so1 (x z : PauliV) (q : Nat) : Prop := x.f1 = ((2 ^ q : Nat) : Int) ∧ x.f2 = 0 ∧ z.f1 = 0 ∧ z.f2 = ((2 ^ q : Nat) : Int)
def soU (xs zs : List PauliV) (j : Nat) : Prop := ∀ q x z, q < j → xs[q]? = some x → zs[q]? = some z → so1 x z q
theorem soU_0 (xs zs : List PauliV) : soU xs zs 0 := fun q x z hq => absurd hq (Nat.not_lt_zero q)
theorem soU_s {j : Nat} {xs zs : List PauliV} {x z : PauliV} (h : soU xs zs j) (hx : xs[j]? = some x) (hz : zs[j]? = some z) (h2 : so1 x z j) : soU xs zs (j + 1) := by
  intro q y u hq hy hu
  by_cases e : q = j
  · subst e; rw [hx] at hy; rw [hz] at hu; cases hy; cases hu; exact h2
  · exact h q y u (by omega) hy hu
theorem ni_ne {a b : Nat} (h : a ≠ b) : ((a : Int) != (b : Int)) = true := by
  rw [bne_iff_ne]; exact fun e => h (Int.ofNat.inj e)
theorem ni_eq {a b : Nat} (h : a = b) : ((a : Int) != (b : Int)) = false := by subst h; simp
theorem n0_ne {a : Nat} (h : a ≠ 0) : ((a : Int) != 0) = true := ni_ne (b := 0) h
theorem n0_eq {a : Nat} (h : a = 0) : ((a : Int) != 0) = false := ni_eq (b := 0) h
theorem so1_of {p a b p2 c d j : Nat} (h1 : a = pw j) (h2 : b = 0) (h3 : c = 0) (h4 : d = pw j) : so1 (pv p a b) (pv p2 c d) j := by
  subst h1 h2 h3 h4; exact ⟨rfl, rfl, rfl, rfl⟩
theorem so1_to {p a b p2 c d j : Nat} (h : so1 (pv p a b) (pv p2 c d) j) : a = pw j ∧ b = 0 ∧ c = 0 ∧ d = pw j := ⟨Int.ofNat.inj h.1, Int.ofNat.inj h.2.1, Int.ofNat.inj h.2.2.1, Int.ofNat.inj h.2.2.2⟩
set_option maxRecDepth 100000 in
set_option maxHeartbeats 8000000 in
theorem soi {n g h c1 c2 : Nat} {xs zs : List PauliV} {t : Bool} {w : World} (q1 : 1 ≤ n) (q5 : n ≤ 5) (ht : TOk (n : Int) n n xs zs) (hs : t = true ↔ soU xs zs n) (hA : Rd pauliE w (some ⟨g, 0, none⟩) xs) (hB : Rd pauliE w (some ⟨h, 0, none⟩) zs) (hn : xs.length = n) (hm : zs.length = n) :
    Calls Try.prog 45 #[tableauV (n : Int) (some ⟨g, 0, none⟩) n c1 (some ⟨h, 0, none⟩) n c2] w fun ee w' => ee = .returned (.tuple #[.bool t, .bool true]) ∧ Below w.heap.size w w' := by
  have HTT := lay ht
  obtain ⟨oX, oZ⟩ := TOk_L ((TOk_m q1 q5 hn hm).1 ht) hn hm
  have OX := lay oX
  have OZ := lay oZ
  have HA := lay hA
  have HB := lay hB
  have HT := lay hs
  have hml : n ≤ maxLen := by unfold maxLen; omega
  clear ht oX oZ hA hB hs
  go_enter Try.func45, Try.ntmps45
  go_wp2_with (fail)
  refine (ivt_i (t := true) (xs := xs) (zs := zs) ⟨fun _ => HTT.out, fun _ => rfl⟩ ?_ ?_ hn hm hml hml).mono ?_
  · exact HA.out.mono (by (repeat' (first | (with_reducible exact Below.refl _ _) | (with_reducible assumption) | (with_reducible refine Below.alloc ?_ ?_ _) | (with_reducible refine Below.drew ?_) | (with_reducible refine bdN ?_ _) | (with_reducible refine Below.setCell ?_ ?_ _) | (with_reducible refine chn ?_ (by assumption) ?_) | omega | (simp; done) | (simp; omega))))
  · exact HB.out.mono (by (repeat' (first | (with_reducible exact Below.refl _ _) | (with_reducible assumption) | (with_reducible refine Below.alloc ?_ ?_ _) | (with_reducible refine Below.drew ?_) | (with_reducible refine bdN ?_ _) | (with_reducible refine Below.setCell ?_ ?_ _) | (with_reducible refine chn ?_ (by assumption) ?_) | omega | (simp; done) | (simp; omega))))
  rintro ee w1 ⟨rfl, hb1⟩
  have hz1 := hb1.size
  (try simp only [World.size_alloc] at hz1)
  have Xt : Hid (Bb w1 (w.heap.size) 53 #[.int .i64 (n : Int), .slice (some ⟨g, 0, none⟩) n c1, .slice (some ⟨h, 0, none⟩) n c2]) := by show Bb _ _ _ _; (repeat' (first | (with_reducible assumption) | (refine Bb.new (by first | (with_reducible rfl) | (simp; done))) | (with_reducible refine Bb.alloc ?_ _) | (with_reducible refine Bb.drew ?_) | (with_reducible refine Bb.drewN ?_ _) | (with_reducible refine Bb.mono ?_ (by assumption)) | (with_reducible refine Bb.far ?_ (by (try simp only [World.size_alloc, World.size_drew]); omega)) | (with_reducible refine Bb.set ?_ rfl) | (with_reducible refine Bb.grown ?_ (by assumption) (by assumption))))
  have hB1 : Below w.heap.size w w1 := by (repeat' (first | (with_reducible exact Below.refl _ _) | (with_reducible assumption) | (with_reducible refine Below.alloc ?_ ?_ _) | (with_reducible refine Below.drew ?_) | (with_reducible refine bdN ?_ _) | (with_reducible refine Below.setCell ?_ ?_ _) | (with_reducible refine chn ?_ (by assumption) ?_) | omega | (simp; done) | (simp; omega)))
  clear hb1
  have ct0 := Xt.out.c 0 rfl
  have ct1 := Xt.out.c 1 rfl
  have ct2 := Xt.out.c 2 rfl
  have lt := Xt.out.lt
  go_wp2_with (fail)
  go_loopg [12] n (fun k s12 wr => ∃ j : Nat, j + k = n ∧ s12 = .int .i64 (j : Int) ∧ Hid (soU xs zs j) ∧ Hid (Bb wr (w.heap.size) 53 #[.int .i64 (n : Int), .slice (some ⟨g, 0, none⟩) n c1, .slice (some ⟨h, 0, none⟩) n c2]) ∧ Below w.heap.size w wr)
  case atStart => exact ⟨0, by omega, rfl, soU_0 _ _, Xt, hB1⟩
  case round =>
    obtain ⟨j, hj, rfl, HU, Xr, hB⟩ := hrel
    clear ct0 ct1 ct2 lt Xt
    have hBs := hB.size
    have ct0 := Xr.out.c 0 rfl
    have ct1 := Xr.out.c 1 rfl
    have ct2 := Xr.out.c 2 rfl
    have lt := Xr.out.lt
    cases gk with
    | zero =>
      obtain rfl : n = j := by omega
      have HH : Hid (true = t) := (HT.out.2 HU.out).symm
      go_wp2_with (fail)
      have he := HH.out
      subst he
      refine bodyPost_ret (v := .tuple #[.bool true, .bool true]) (by first | (simp [results, Try.results45, go_sem, *]; done) | (simp (disch := (first | omega | (simp; done) | (simp; omega))) [results, Try.results45, go_sem, *]; done) | (simp only [results, Try.results45]; go_simp; done)) rfl ⟨rfl, ?_⟩
      exact hB
    | succ m =>
      have hlt : j < n := by omega
      have jl : (j : Int) < (n : Int) := by omega
      obtain ⟨pX, aX, bX, hx, pX3, aX2, bX2, nX⟩ := okL_at OX.out hlt
      obtain ⟨pZ, aZ, bZ, hz, pZ3, aZ2, bZ2, nZ⟩ := okL_at OZ.out hlt
      obtain ⟨gX, oX, eX, hgX, hcX⟩ := HA.out.atPauli hx
      obtain ⟨gZ, oZ, eZ, hgZ, hcZ⟩ := HB.out.atPauli hz
      cases eX
      cases eZ
      simp only [Nat.zero_add] at hcX hcZ
      have HX := lay hx
      have HZ := lay hz
      obtain ⟨x0, x1, x2⟩ := hcX
      obtain ⟨z0, z1, z2⟩ := hcZ
      clear hx hz nX nZ
      have j5 : j ≤ 5 := by omega
      have e1 := pw_w j5
      have e2 := pw_k j5
      have a1 : IntKind.i64.wrap ((j : Int)) = (j : Int) := IntWalk.i64_in _ (by omega)
      have hb0 := hB
      have lgg : g < wr.heap.size := Nat.lt_of_lt_of_le hgX hb0.size
      have lgh : h < wr.heap.size := Nat.lt_of_lt_of_le hgZ hb0.size
      have x0' : wr.cell? ⟨g, j * 3, none⟩ = some (.int .i64 (pX : Int)) := (World.cell?_of_block (hb0.block _ hgX)).trans x0
      have x1' : wr.cell? ⟨g, j * 3 + 1, none⟩ = some (.int .i64 (aX : Int)) := (World.cell?_of_block (hb0.block _ hgX)).trans x1
      have x2' : wr.cell? ⟨g, j * 3 + 2, none⟩ = some (.int .i64 (bX : Int)) := (World.cell?_of_block (hb0.block _ hgX)).trans x2
      have z0' : wr.cell? ⟨h, j * 3, none⟩ = some (.int .i64 (pZ : Int)) := (World.cell?_of_block (hb0.block _ hgZ)).trans z0
      have z1' : wr.cell? ⟨h, j * 3 + 1, none⟩ = some (.int .i64 (aZ : Int)) := (World.cell?_of_block (hb0.block _ hgZ)).trans z1
      have z2' : wr.cell? ⟨h, j * 3 + 2, none⟩ = some (.int .i64 (bZ : Int)) := (World.cell?_of_block (hb0.block _ hgZ)).trans z2
      go_wp2_with (fail)
      go_cut [5, 6] (fun s5 s6 wx => ∃ p q : Nat, s5 = .pointer (some ⟨p, 0, none⟩) ∧ s6 = .pointer (some ⟨q, 0, none⟩) ∧ Hid (Bb wx (p) 43 #[.int .i64 (pX : Int), .int .i64 (aX : Int), .int .i64 (bX : Int)]) ∧ Hid (Bb wx (q) 43 #[.int .i64 (pZ : Int), .int .i64 (aZ : Int), .int .i64 (bZ : Int)]) ∧ Hid (Bb wx (w.heap.size) 53 #[.int .i64 (n : Int), .slice (some ⟨g, 0, none⟩) n c1, .slice (some ⟨h, 0, none⟩) n c2]) ∧ w.heap.size ≤ p ∧ w.heap.size ≤ q ∧ p ≠ q ∧ Below w.heap.size w wx)
      case first =>
        have yct0 : wr.drew.cell? ⟨w.heap.size, 0, none⟩ = some (.int .i64 (n : Int)) := ct0
        have yct1 : wr.drew.cell? ⟨w.heap.size, 1, none⟩ = some (.slice (some ⟨g, 0, none⟩) n c1) := ct1
        have yct2 : wr.drew.cell? ⟨w.heap.size, 2, none⟩ = some (.slice (some ⟨h, 0, none⟩) n c2) := ct2
        have yx0' : wr.drew.cell? ⟨g, j * 3, none⟩ = some (.int .i64 (pX : Int)) := x0'
        have yx1' : wr.drew.cell? ⟨g, j * 3 + 1, none⟩ = some (.int .i64 (aX : Int)) := x1'
        have yx2' : wr.drew.cell? ⟨g, j * 3 + 2, none⟩ = some (.int .i64 (bX : Int)) := x2'
        have yz0' : wr.drew.cell? ⟨h, j * 3, none⟩ = some (.int .i64 (pZ : Int)) := z0'
        have yz1' : wr.drew.cell? ⟨h, j * 3 + 1, none⟩ = some (.int .i64 (aZ : Int)) := z1'
        have yz2' : wr.drew.cell? ⟨h, j * 3 + 2, none⟩ = some (.int .i64 (bZ : Int)) := z2'
        refine wp_region_x (fun w' => w'.cell? ⟨w.heap.size, 0, none⟩ = some (.int .i64 (n : Int)) ∧ w'.cell? ⟨w.heap.size, 1, none⟩ = some (.slice (some ⟨g, 0, none⟩) n c1) ∧ w'.cell? ⟨w.heap.size, 2, none⟩ = some (.slice (some ⟨h, 0, none⟩) n c2) ∧ w'.cell? ⟨g, j * 3, none⟩ = some (.int .i64 (pX : Int)) ∧ w'.cell? ⟨g, j * 3 + 1, none⟩ = some (.int .i64 (aX : Int)) ∧ w'.cell? ⟨g, j * 3 + 2, none⟩ = some (.int .i64 (bX : Int)) ∧ w'.cell? ⟨h, j * 3, none⟩ = some (.int .i64 (pZ : Int)) ∧ w'.cell? ⟨h, j * 3 + 1, none⟩ = some (.int .i64 (aZ : Int)) ∧ w'.cell? ⟨h, j * 3 + 2, none⟩ = some (.int .i64 (bZ : Int))) 1000 (by kernel_rfl) ⟨yct0, yct1, yct2, yx0', yx1', yx2', yz0', yz1', yz2'⟩ (fun hS0 => ?_)
        refine wpAnyX_take (i := 0) (oi := _) (v := ?_) rfl (by kernel_rfl) (by kernel_rfl) (by kernel_rfl) (by kernel_rfl) (fun _ _ _ h => h) (Or.inl ⟨by rfl, ?_⟩) hS0 ?_
        rotate_left 1
        · (intro w hSw; (try dsimp only at hSw); go_simp; (try with_reducible rfl))
        try simp only [Act.put, List.setIfInBounds_toArray, List.set_cons_zero, List.set_cons_succ]
        refine wpAnyX_take (i := 1) (oi := _) (v := ?_) rfl (by kernel_rfl) (by kernel_rfl) (by kernel_rfl) (by kernel_rfl) (fun _ _ _ h => h) (Or.inl ⟨by rfl, ?_⟩) hS0 ?_
        rotate_left 1
        · (intro w hSw; (try dsimp only at hSw); go_simp; (try with_reducible rfl))
        try simp only [Act.put, List.setIfInBounds_toArray, List.set_cons_zero, List.set_cons_succ]
        refine wpAnyX_take (i := 2) (oi := _) (v := ?_) rfl (by kernel_rfl) (by kernel_rfl) (by kernel_rfl) (by kernel_rfl) (fun _ _ _ h => h) (Or.inl ⟨by rfl, ?_⟩) hS0 ?_
        rotate_left 1
        · (intro w hSw; (try dsimp only at hSw); go_simp; (try with_reducible rfl))
        try simp only [Act.put, List.setIfInBounds_toArray, List.set_cons_zero, List.set_cons_succ]
        refine wpAnyX_take (i := 3) (oi := _) (v := ?_) rfl (by kernel_rfl) (by kernel_rfl) (by kernel_rfl) (by kernel_rfl) (fun _ _ _ h => h) (Or.inl ⟨by rfl, ?_⟩) hS0 ?_
        rotate_left 1
        · (intro w hSw; (try dsimp only at hSw); go_simp; (try with_reducible rfl))
        try simp only [Act.put, List.setIfInBounds_toArray, List.set_cons_zero, List.set_cons_succ]
        refine wpAnyX_take (i := 4) (oi := _) (v := ?_) rfl (by kernel_rfl) (by kernel_rfl) (by kernel_rfl) (by kernel_rfl) (fun _ _ _ h => h) (Or.inl ⟨by rfl, ?_⟩) hS0 ?_
        rotate_left 1
        · (intro w hSw; (try dsimp only at hSw); go_simp; (try with_reducible rfl))
        try simp only [Act.put, List.setIfInBounds_toArray, List.set_cons_zero, List.set_cons_succ]
        refine wpAnyX_take (i := 5) (oi := _) (v := ?_) rfl (by kernel_rfl) (by kernel_rfl) (by kernel_rfl) (by kernel_rfl) (fun _ _ _ h => h) (Or.inl ⟨by rfl, ?_⟩) hS0 ?_
        rotate_left 1
        · (intro w hSw; (try dsimp only at hSw); go_simp; (try with_reducible rfl))
        try simp only [Act.put, List.setIfInBounds_toArray, List.set_cons_zero, List.set_cons_succ]
        refine wpAnyX_take (i := 6) (oi := _) (v := ?_) rfl (by kernel_rfl) (by kernel_rfl) (by kernel_rfl) (by kernel_rfl) (fun _ _ _ h => h) (Or.inl ⟨by rfl, ?_⟩) hS0 ?_
        rotate_left 1
        · (intro w hSw; (try dsimp only at hSw); go_simp; (try with_reducible rfl))
        try simp only [Act.put, List.setIfInBounds_toArray, List.set_cons_zero, List.set_cons_succ]
        refine wpAnyX_take (i := 7) (oi := _) (v := ?_) rfl (by kernel_rfl) (by kernel_rfl) (by kernel_rfl) (by kernel_rfl) (fun _ _ _ h => h) (Or.inl ⟨by rfl, ?_⟩) hS0 ?_
        rotate_left 1
        · (intro w hSw; (try dsimp only at hSw); go_simp; (try with_reducible rfl))
        try simp only [Act.put, List.setIfInBounds_toArray, List.set_cons_zero, List.set_cons_succ]
        refine wpAnyX_take (i := 8) (oi := _) (v := ?_) rfl (by kernel_rfl) (by kernel_rfl) (by kernel_rfl) (by kernel_rfl) (fun _ _ _ h => h) (Or.inl ⟨by rfl, ?_⟩) hS0 ?_
        rotate_left 1
        · (intro w hSw; (try dsimp only at hSw); go_simp; (try with_reducible rfl))
        try simp only [Act.put, List.setIfInBounds_toArray, List.set_cons_zero, List.set_cons_succ]
        refine wpAnyX_take (i := 9) (oi := _) (v := ?_) rfl (by kernel_rfl) (by kernel_rfl) (by kernel_rfl) (by kernel_rfl) (fun _ _ _ h => h) (Or.inl ⟨by rfl, ?_⟩) hS0 ?_
        rotate_left 1
        · (intro w hSw; (try dsimp only at hSw); go_simp; (try with_reducible rfl))
        try simp only [Act.put, List.setIfInBounds_toArray, List.set_cons_zero, List.set_cons_succ]
        refine wpAnyX_two (i := 10) (j := 11) (oi := _) (oj := _) rfl rfl (by kernel_rfl) (fun K hK => ?_) (fun K hK => ?_)
        · go_simp
          refine hK.out _ _ (fun _ => ?_) (fun hS1 => ?_)
          · first | exact ⟨kclAl (hS0.1), kclAl (hS0.2.1), kclAl (hS0.2.2.1), kclAl (hS0.2.2.2.1), kclAl (hS0.2.2.2.2.1), kclAl (hS0.2.2.2.2.2.1), kclAl (hS0.2.2.2.2.2.2.1), kclAl (hS0.2.2.2.2.2.2.2.1), kclAl (hS0.2.2.2.2.2.2.2.2)⟩ | exact ⟨kclAld (hS0.1), kclAld (hS0.2.1), kclAld (hS0.2.2.1), kclAld (hS0.2.2.2.1), kclAld (hS0.2.2.2.2.1), kclAld (hS0.2.2.2.2.2.1), kclAld (hS0.2.2.2.2.2.2.1), kclAld (hS0.2.2.2.2.2.2.2.1), kclAld (hS0.2.2.2.2.2.2.2.2)⟩
          clear hK K
          have hS1 := hS1 (by decide)
          try simp only [Act.put, List.setIfInBounds_toArray, List.set_cons_zero, List.set_cons_succ]
          refine wpAnyX_one (i := 11) (o := _) rfl (by kernel_rfl) (fun K hK => ?_)
          go_simp
          refine hK.out _ _ (fun _ => ?_) (fun hS2 => ?_)
          · first | exact ⟨kclAl (hS1.1), kclAl (hS1.2.1), kclAl (hS1.2.2.1), kclAl (hS1.2.2.2.1), kclAl (hS1.2.2.2.2.1), kclAl (hS1.2.2.2.2.2.1), kclAl (hS1.2.2.2.2.2.2.1), kclAl (hS1.2.2.2.2.2.2.2.1), kclAl (hS1.2.2.2.2.2.2.2.2)⟩ | exact ⟨kclAld (hS1.1), kclAld (hS1.2.1), kclAld (hS1.2.2.1), kclAld (hS1.2.2.2.1), kclAld (hS1.2.2.2.2.1), kclAld (hS1.2.2.2.2.2.1), kclAld (hS1.2.2.2.2.2.2.1), kclAld (hS1.2.2.2.2.2.2.2.1), kclAld (hS1.2.2.2.2.2.2.2.2)⟩
          clear hK K
          have hS2 := hS2 (by decide)
          try simp only [Act.put, List.setIfInBounds_toArray, List.set_cons_zero, List.set_cons_succ]
          refine wpAnyX_one (i := 12) (o := _) rfl (by kernel_rfl) (fun K hK => ?_)
          go_simp
          refine hK.out _ _ (fun _ => ?_) (fun hS3 => ?_)
          · exact ⟨kclAld (kclAld yct0), kclAld (kclAld yct1), kclAld (kclAld yct2), kclAld (kclAld yx0'), kclAld (kclAld yx1'), kclAld (kclAld yx2'), kclAld (kclAld yz0'), kclAld (kclAld yz1'), kclAld (kclAld yz2')⟩
          clear hK K
          have hS3 := hS3 (by decide)
          try simp only [Act.put, List.setIfInBounds_toArray, List.set_cons_zero, List.set_cons_succ]
          refine wpAnyX_one (i := 13) (o := _) rfl (by kernel_rfl) (fun K hK => ?_)
          go_simp
          refine hK.out _ _ (fun _ => ?_) (fun hS4 => ?_)
          · exact ⟨kclAld (kclAld yct0), kclAld (kclAld yct1), kclAld (kclAld yct2), kclAld (kclAld yx0'), kclAld (kclAld yx1'), kclAld (kclAld yx2'), kclAld (kclAld yz0'), kclAld (kclAld yz1'), kclAld (kclAld yz2')⟩
          clear hK K
          have hS4 := hS4 (by decide)
          try simp only [Act.put, List.setIfInBounds_toArray, List.set_cons_zero, List.set_cons_succ]
          refine wpAnyX_done (by kernel_rfl) ?_ _
          go_wp2_with (fail)
          go_meet
          refine ⟨wr.heap.size, wr.heap.size + 1, rfl, rfl, ?_, ?_, ?_, by omega, by omega, by omega, ?_⟩
          · show Bb _ _ _ _; (repeat' (first | (with_reducible assumption) | (refine Bb.new (by first | (with_reducible rfl) | (simp; done))) | (with_reducible refine Bb.alloc ?_ _) | (with_reducible refine Bb.drew ?_) | (with_reducible refine Bb.drewN ?_ _) | (with_reducible refine Bb.mono ?_ (by assumption)) | (with_reducible refine Bb.far ?_ (by (try simp only [World.size_alloc, World.size_drew]); omega)) | (with_reducible refine Bb.set ?_ rfl) | (with_reducible refine Bb.grown ?_ (by assumption) (by assumption))))
          · show Bb _ _ _ _; (repeat' (first | (with_reducible assumption) | (refine Bb.new (by first | (with_reducible rfl) | (simp; done))) | (with_reducible refine Bb.alloc ?_ _) | (with_reducible refine Bb.drew ?_) | (with_reducible refine Bb.drewN ?_ _) | (with_reducible refine Bb.mono ?_ (by assumption)) | (with_reducible refine Bb.far ?_ (by (try simp only [World.size_alloc, World.size_drew]); omega)) | (with_reducible refine Bb.set ?_ rfl) | (with_reducible refine Bb.grown ?_ (by assumption) (by assumption))))
          · show Bb _ _ _ _; have R := Xr.out; (repeat' (first | (with_reducible assumption) | (refine Bb.new (by first | (with_reducible rfl) | (simp; done))) | (with_reducible refine Bb.alloc ?_ _) | (with_reducible refine Bb.drew ?_) | (with_reducible refine Bb.drewN ?_ _) | (with_reducible refine Bb.mono ?_ (by assumption)) | (with_reducible refine Bb.far ?_ (by (try simp only [World.size_alloc, World.size_drew]); omega)) | (with_reducible refine Bb.set ?_ rfl) | (with_reducible refine Bb.grown ?_ (by assumption) (by assumption))))
          · (repeat' (first | (with_reducible exact Below.refl _ _) | (with_reducible assumption) | (with_reducible refine Below.alloc ?_ ?_ _) | (with_reducible refine Below.drew ?_) | (with_reducible refine bdN ?_ _) | (with_reducible refine Below.setCell ?_ ?_ _) | (with_reducible refine chn ?_ (by assumption) ?_) | omega | (simp; done) | (simp; omega)))
        · go_simp
          refine hK.out _ _ (fun _ => ?_) (fun hS1 => ?_)
          · first | exact ⟨kclAl (hS0.1), kclAl (hS0.2.1), kclAl (hS0.2.2.1), kclAl (hS0.2.2.2.1), kclAl (hS0.2.2.2.2.1), kclAl (hS0.2.2.2.2.2.1), kclAl (hS0.2.2.2.2.2.2.1), kclAl (hS0.2.2.2.2.2.2.2.1), kclAl (hS0.2.2.2.2.2.2.2.2)⟩ | exact ⟨kclAld (hS0.1), kclAld (hS0.2.1), kclAld (hS0.2.2.1), kclAld (hS0.2.2.2.1), kclAld (hS0.2.2.2.2.1), kclAld (hS0.2.2.2.2.2.1), kclAld (hS0.2.2.2.2.2.2.1), kclAld (hS0.2.2.2.2.2.2.2.1), kclAld (hS0.2.2.2.2.2.2.2.2)⟩
          clear hK K
          have hS1 := hS1 (by decide)
          try simp only [Act.put, List.setIfInBounds_toArray, List.set_cons_zero, List.set_cons_succ]
          refine wpAnyX_one (i := 10) (o := _) rfl (by kernel_rfl) (fun K hK => ?_)
          go_simp
          refine hK.out _ _ (fun _ => ?_) (fun hS2 => ?_)
          · first | exact ⟨kclAl (hS1.1), kclAl (hS1.2.1), kclAl (hS1.2.2.1), kclAl (hS1.2.2.2.1), kclAl (hS1.2.2.2.2.1), kclAl (hS1.2.2.2.2.2.1), kclAl (hS1.2.2.2.2.2.2.1), kclAl (hS1.2.2.2.2.2.2.2.1), kclAl (hS1.2.2.2.2.2.2.2.2)⟩ | exact ⟨kclAld (hS1.1), kclAld (hS1.2.1), kclAld (hS1.2.2.1), kclAld (hS1.2.2.2.1), kclAld (hS1.2.2.2.2.1), kclAld (hS1.2.2.2.2.2.1), kclAld (hS1.2.2.2.2.2.2.1), kclAld (hS1.2.2.2.2.2.2.2.1), kclAld (hS1.2.2.2.2.2.2.2.2)⟩
          clear hK K
          have hS2 := hS2 (by decide)
          try simp only [Act.put, List.setIfInBounds_toArray, List.set_cons_zero, List.set_cons_succ]
          refine wpAnyX_one (i := 12) (o := _) rfl (by kernel_rfl) (fun K hK => ?_)
          go_simp
          refine hK.out _ _ (fun _ => ?_) (fun hS3 => ?_)
          · exact ⟨kclAld (kclAld yct0), kclAld (kclAld yct1), kclAld (kclAld yct2), kclAld (kclAld yx0'), kclAld (kclAld yx1'), kclAld (kclAld yx2'), kclAld (kclAld yz0'), kclAld (kclAld yz1'), kclAld (kclAld yz2')⟩
          clear hK K
          have hS3 := hS3 (by decide)
          try simp only [Act.put, List.setIfInBounds_toArray, List.set_cons_zero, List.set_cons_succ]
          refine wpAnyX_one (i := 13) (o := _) rfl (by kernel_rfl) (fun K hK => ?_)
          go_simp
          refine hK.out _ _ (fun _ => ?_) (fun hS4 => ?_)
          · exact ⟨kclAld (kclAld yct0), kclAld (kclAld yct1), kclAld (kclAld yct2), kclAld (kclAld yx0'), kclAld (kclAld yx1'), kclAld (kclAld yx2'), kclAld (kclAld yz0'), kclAld (kclAld yz1'), kclAld (kclAld yz2')⟩
          clear hK K
          have hS4 := hS4 (by decide)
          try simp only [Act.put, List.setIfInBounds_toArray, List.set_cons_zero, List.set_cons_succ]
          refine wpAnyX_done (by kernel_rfl) ?_ _
          go_wp2_with (fail)
          go_meet
          refine ⟨wr.heap.size + 1, wr.heap.size, rfl, rfl, ?_, ?_, ?_, by omega, by omega, by omega, ?_⟩
          · show Bb _ _ _ _; (repeat' (first | (with_reducible assumption) | (refine Bb.new (by first | (with_reducible rfl) | (simp; done))) | (with_reducible refine Bb.alloc ?_ _) | (with_reducible refine Bb.drew ?_) | (with_reducible refine Bb.drewN ?_ _) | (with_reducible refine Bb.mono ?_ (by assumption)) | (with_reducible refine Bb.far ?_ (by (try simp only [World.size_alloc, World.size_drew]); omega)) | (with_reducible refine Bb.set ?_ rfl) | (with_reducible refine Bb.grown ?_ (by assumption) (by assumption))))
          · show Bb _ _ _ _; (repeat' (first | (with_reducible assumption) | (refine Bb.new (by first | (with_reducible rfl) | (simp; done))) | (with_reducible refine Bb.alloc ?_ _) | (with_reducible refine Bb.drew ?_) | (with_reducible refine Bb.drewN ?_ _) | (with_reducible refine Bb.mono ?_ (by assumption)) | (with_reducible refine Bb.far ?_ (by (try simp only [World.size_alloc, World.size_drew]); omega)) | (with_reducible refine Bb.set ?_ rfl) | (with_reducible refine Bb.grown ?_ (by assumption) (by assumption))))
          · show Bb _ _ _ _; have R := Xr.out; (repeat' (first | (with_reducible assumption) | (refine Bb.new (by first | (with_reducible rfl) | (simp; done))) | (with_reducible refine Bb.alloc ?_ _) | (with_reducible refine Bb.drew ?_) | (with_reducible refine Bb.drewN ?_ _) | (with_reducible refine Bb.mono ?_ (by assumption)) | (with_reducible refine Bb.far ?_ (by (try simp only [World.size_alloc, World.size_drew]); omega)) | (with_reducible refine Bb.set ?_ rfl) | (with_reducible refine Bb.grown ?_ (by assumption) (by assumption))))
          · (repeat' (first | (with_reducible exact Below.refl _ _) | (with_reducible assumption) | (with_reducible refine Below.alloc ?_ ?_ _) | (with_reducible refine Below.drew ?_) | (with_reducible refine bdN ?_ _) | (with_reducible refine Below.setCell ?_ ?_ _) | (with_reducible refine chn ?_ (by assumption) ?_) | omega | (simp; done) | (simp; omega)))
      case rest =>
        obtain ⟨p, q, rfl, rfl, XP, XQ, XT, lp, lq, hpq, hBc⟩ := hcut
        clear ct0 ct1 ct2 lt Xr hBs
        have hBs := hBc.size
        have ct0 := XT.out.c 0 rfl
        have ct1 := XT.out.c 1 rfl
        have ct2 := XT.out.c 2 rfl
        have lt := XT.out.lt
        have cp0 := XP.out.c 0 rfl
        have cp1 := XP.out.c 1 rfl
        have cp2 := XP.out.c 2 rfl
        have llp := XP.out.lt
        have cq0 := XQ.out.c 0 rfl
        have cq1 := XQ.out.c 1 rfl
        have cq2 := XQ.out.c 2 rfl
        have llq := XQ.out.lt
        by_cases h1 : aX = pw j
        · by_cases h2 : bX = 0
          · by_cases h3 : aZ = 0
            · by_cases h4 : bZ = pw j
              · have HS : Hid (so1 (pv pX aX bX) (pv pZ aZ bZ) j) := so1_of h1 h2 h3 h4
                have d1 : ((aX : Int) != ((pw j : Nat) : Int)) = false := ni_eq h1
                have d2 : ((bX : Int) != 0) = false := n0_eq h2
                have d3 : ((aZ : Int) != 0) = false := n0_eq h3
                have d4 : ((bZ : Int) != ((pw j : Nat) : Int)) = false := ni_eq h4
                clear h1 h2 h3 h4
                go_wp2_with (fail)
                go_quiet (fail)
                go_wp2_with (fail)
                go_roundg m
                case measure => omega
                case rel => exact ⟨j + 1, by omega, by go_num, soU_s HU.out HX.out HZ.out HS.out, XT, by (repeat' (first | (with_reducible exact Below.refl _ _) | (with_reducible assumption) | (with_reducible refine Below.alloc ?_ ?_ _) | (with_reducible refine Below.drew ?_) | (with_reducible refine bdN ?_ _) | (with_reducible refine Below.setCell ?_ ?_ _) | (with_reducible refine chn ?_ (by assumption) ?_) | omega | (simp; done) | (simp; omega)))⟩
              · have HH : Hid (false = t) := tF HT.out (fun h => by have h9 := h j _ _ hlt HX.out HZ.out; exact h4 (so1_to h9).2.2.2)
                have d1 : ((aX : Int) != ((pw j : Nat) : Int)) = false := ni_eq h1
                have d2 : ((bX : Int) != 0) = false := n0_eq h2
                have d3 : ((aZ : Int) != 0) = false := n0_eq h3
                have d4 : ((bZ : Int) != ((pw j : Nat) : Int)) = true := ni_ne h4
                clear h1 h2 h3 h4
                go_wp2_with (fail)
                go_quiet (fail)
                go_wp2_with (fail)
                have he := HH.out
                subst he
                refine bodyPost_ret (v := .tuple #[.bool false, .bool true]) (by first | (simp [results, Try.results45, go_sem, *]; done) | (simp (disch := (first | omega | (simp; done) | (simp; omega))) [results, Try.results45, go_sem, *]; done) | (simp only [results, Try.results45]; go_simp; done)) rfl ⟨rfl, ?_⟩
                (repeat' (first | (with_reducible exact Below.refl _ _) | (with_reducible assumption) | (with_reducible refine Below.alloc ?_ ?_ _) | (with_reducible refine Below.drew ?_) | (with_reducible refine bdN ?_ _) | (with_reducible refine Below.setCell ?_ ?_ _) | (with_reducible refine chn ?_ (by assumption) ?_) | omega | (simp; done) | (simp; omega)))
            · have HH : Hid (false = t) := tF HT.out (fun h => by have h9 := h j _ _ hlt HX.out HZ.out; exact h3 (so1_to h9).2.2.1)
              have d1 : ((aX : Int) != ((pw j : Nat) : Int)) = false := ni_eq h1
              have d2 : ((bX : Int) != 0) = false := n0_eq h2
              have d3 : ((aZ : Int) != 0) = true := n0_ne h3
              clear h1 h2 h3
              go_wp2_with (fail)
              go_quiet (fail)
              go_wp2_with (fail)
              have he := HH.out
              subst he
              refine bodyPost_ret (v := .tuple #[.bool false, .bool true]) (by first | (simp [results, Try.results45, go_sem, *]; done) | (simp (disch := (first | omega | (simp; done) | (simp; omega))) [results, Try.results45, go_sem, *]; done) | (simp only [results, Try.results45]; go_simp; done)) rfl ⟨rfl, ?_⟩
              (repeat' (first | (with_reducible exact Below.refl _ _) | (with_reducible assumption) | (with_reducible refine Below.alloc ?_ ?_ _) | (with_reducible refine Below.drew ?_) | (with_reducible refine bdN ?_ _) | (with_reducible refine Below.setCell ?_ ?_ _) | (with_reducible refine chn ?_ (by assumption) ?_) | omega | (simp; done) | (simp; omega)))
          · have HH : Hid (false = t) := tF HT.out (fun h => by have h9 := h j _ _ hlt HX.out HZ.out; exact h2 (so1_to h9).2.1)
            have d1 : ((aX : Int) != ((pw j : Nat) : Int)) = false := ni_eq h1
            have d2 : ((bX : Int) != 0) = true := n0_ne h2
            clear h1 h2
            go_wp2_with (fail)
            go_quiet (fail)
            go_wp2_with (fail)
            have he := HH.out
            subst he
            refine bodyPost_ret (v := .tuple #[.bool false, .bool true]) (by first | (simp [results, Try.results45, go_sem, *]; done) | (simp (disch := (first | omega | (simp; done) | (simp; omega))) [results, Try.results45, go_sem, *]; done) | (simp only [results, Try.results45]; go_simp; done)) rfl ⟨rfl, ?_⟩
            (repeat' (first | (with_reducible exact Below.refl _ _) | (with_reducible assumption) | (with_reducible refine Below.alloc ?_ ?_ _) | (with_reducible refine Below.drew ?_) | (with_reducible refine bdN ?_ _) | (with_reducible refine Below.setCell ?_ ?_ _) | (with_reducible refine chn ?_ (by assumption) ?_) | omega | (simp; done) | (simp; omega)))
        · have HH : Hid (false = t) := tF HT.out (fun h => by have h9 := h j _ _ hlt HX.out HZ.out; exact h1 (so1_to h9).1)
          have d1 : ((aX : Int) != ((pw j : Nat) : Int)) = true := ni_ne h1
          clear h1
          go_wp2_with (fail)
          go_quiet (fail)
          go_wp2_with (fail)
          have he := HH.out
          subst he
          refine bodyPost_ret (v := .tuple #[.bool false, .bool true]) (by first | (simp [results, Try.results45, go_sem, *]; done) | (simp (disch := (first | omega | (simp; done) | (simp; omega))) [results, Try.results45, go_sem, *]; done) | (simp only [results, Try.results45]; go_simp; done)) rfl ⟨rfl, ?_⟩
          (repeat' (first | (with_reducible exact Below.refl _ _) | (with_reducible assumption) | (with_reducible refine Below.alloc ?_ ?_ _) | (with_reducible refine Below.drew ?_) | (with_reducible refine bdN ?_ _) | (with_reducible refine Below.setCell ?_ ?_ _) | (with_reducible refine chn ?_ (by assumption) ?_) | omega | (simp; done) | (simp; omega)))

end Go.Proofs.Ytjedpeoafpljhaa.C4
