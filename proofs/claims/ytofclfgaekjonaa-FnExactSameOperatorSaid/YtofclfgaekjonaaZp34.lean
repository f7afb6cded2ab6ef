/- Ph2, Ph3, Ia, Ib, LwIp -/
import Derived.Test.YtofclfgaekjonaaZp33
import Derived.Test.YtofclfgaekjonaaZp32
import Derived.Test.YtofclfgaekjonaaZp20
import Derived.Test.YtofclfgaekjonaaZp18
import Derived.Test.YtofclfgaekjonaaZp14
namespace Go.Proofs.Ytofclfgaekjonaa
open Go.RowKit RM
set_option linter.unusedVariables false
set_option linter.unusedSimpArgs false
attribute [local irreducible] World.setCell

theorem im_y {r c r' c' : Int} {A B : Option Addr} {n m cp cp' k : Nat} {xs ys : List D5} {w : World} (hA : Rd w A xs) (hB : Rd w B ys) (hn : xs.length = n) (hm : ys.length = m) (hb : n ≤ 1048576) (hd : r = r' → c = c' → n = m) (hk : k < 8) (hy : allB ys = true) (h : badK r c r' c' n xs ys k = false) :
    Calls Try.prog 121 #[mv r c A n cp, mv r' c' B m cp', (omP k).v] w fun ee w' => ee = .returned (.bool true) ∧ Below w.heap.size w w' :=
  (im hA hB hn hm hb hd hk hy).mono fun ee w' q => ⟨q.2.1 h, q.2.2⟩
theorem im_n {r c r' c' : Int} {A B : Option Addr} {n m cp cp' k : Nat} {xs ys : List D5} {w : World} (hA : Rd w A xs) (hB : Rd w B ys) (hn : xs.length = n) (hm : ys.length = m) (hb : n ≤ 1048576) (hd : r = r' → c = c' → n = m) (hk : k < 8) (hy : allB ys = true) (h : badK r c r' c' n xs ys k = true) :
    Calls Try.prog 121 #[mv r c A n cp, mv r' c' B m cp', (omP k).v] w fun ee w' => ee = .returned (.bool false) ∧ Below w.heap.size w w' :=
  (im hA hB hn hm hb hd hk hy).mono fun ee w' q => ⟨q.1 h, q.2.2⟩
/-- what a search for the least power answers -/
def PH (mk : Int → Bool → Value) (bad : Nat → Bool) (w w' : World) (ee : Ending) : Prop :=
  (∀ K : Nat, K < 8 → (∀ i, i < K → bad i = true) → bad K = false → ee = .returned (mk K true)) ∧ ((∀ i, i < 8 → bad i = true) → ee = .returned (mk 0 false)) ∧ Below w.heap.size w w'
theorem PH.found {mk : Int → Bool → Value} {bad : Nat → Bool} {w w' : World} {ee : Ending} {k : Nat} (hk : k < 8) (h1 : ∀ i, i < k → bad i = true) (h2 : bad k = false) (he : ee = .returned (mk k true)) (hb : Below w.heap.size w w') : PH mk bad w w' ee := by
  refine ⟨fun K hK k1 k2 => ?_, fun h => ?_, hb⟩
  · have : K = k := by
      rcases Nat.lt_trichotomy K k with h | h | h
      · rw [h1 K h] at k2; cases k2
      · exact h
      · rw [k1 k h] at h2; cases h2
    subst this; exact he
  · rw [h k hk] at h2; cases h2
theorem PH.none {mk : Int → Bool → Value} {bad : Nat → Bool} {w w' : World} {ee : Ending} (h1 : ∀ i, i < 8 → bad i = true) (he : ee = .returned (mk 0 false)) (hb : Below w.heap.size w w') : PH mk bad w w' ee :=
  ⟨fun K hK _ k2 => (by rw [h1 K hK] at k2; cases k2), fun _ => he, hb⟩
theorem ph_any (bad : Nat → Bool) : (∃ K, K < 8 ∧ (∀ i, i < K → bad i = true) ∧ bad K = false) ∨ (∀ i, i < 8 → bad i = true) := by
  have key : ∀ n : Nat, (∃ K, K < n ∧ (∀ i, i < K → bad i = true) ∧ bad K = false) ∨ (∀ i, i < n → bad i = true) := by
    intro n
    induction n with
    | zero => exact Or.inr (fun i hi => absurd hi (Nat.not_lt_zero i))
    | succ n ih =>
      rcases ih with ⟨K, h1, h2, h3⟩ | h
      · exact Or.inl ⟨K, by omega, h2, h3⟩
      · cases hq : bad n
        · exact Or.inl ⟨n, by omega, h, hq⟩
        · refine Or.inr (fun i hi => ?_)
          by_cases e : i = n
          · subst e; exact hq
          · exact h i (by omega)
  exact key 8
def mk3 (k : Int) (b : Bool) : Value := .tuple #[.int .i64 k, .bool b, .bool true]
def mk2 (k : Int) (b : Bool) : Value := .tuple #[.int .i64 k, .bool b]

set_option maxRecDepth 100000 in
set_option maxHeartbeats 8000000 in
theorem up_i_t {r c r' c' : Int} {A B : Option Addr} {n m cp cp' : Nat} {xs ys : List D5} {w : World} (hA : Rd w A xs) (hB : Rd w B ys) (hn : xs.length = n) (hm : ys.length = m) (hok : okM r c n xs = true) (hok2 : okM r' c' m ys = true) :
    Calls Try.prog 68 #[mv r c A n cp, mv r' c' B m cp'] w fun ee w' => PH mk3 (badK r c r' c' n xs ys) w w' ee := by
  have hd0 : r = r' → c = c' → n = m := by
    intro h1 h2
    have k1 := (okM_iff.1 hok).2.2.1
    have k2 := (okM_iff.1 hok2).2.2.1
    subst h1 h2
    have : (n : Int) = (m : Int) := by rw [k1, k2]
    omega
  have hn5 : n ≤ 1048576 := by obtain ⟨_, _, _, _, _, _, _, _, _, h⟩ := okM_nat hok; omega
  have hm5 : m ≤ 1048576 := by obtain ⟨_, _, _, _, _, _, _, _, _, h⟩ := okM_nat hok2; omega
  have HD := hid hd0
  have HY := hid (okM_iff.1 hok2).2.2.2
  have HA := hid hA
  have HB := hid hB
  have HN := hid hn
  have HM := hid hm
  have HO := hid hok
  have HP := hid hok2
  clear hA hB hn hm hok hok2 hd0
  go_enter Try.func68, Try.ntmps68
  go_wp2_with (fail)
  refine (vm_i_t (xs := xs) HO.out ?_ HN.out).mono ?_
  · exact HA.out.mono (by (repeat' (first | (with_reducible exact Below.refl _ _) | (with_reducible assumption) | (with_reducible refine Below.alloc ?_ ?_ _) | (with_reducible refine Below.drew ?_) | (with_reducible refine below_drewN ?_ _) | (with_reducible refine Below.setCell ?_ ?_ _) | (with_reducible refine chain ?_ (by assumption) ?_) | omega | (simp; done) | (simp; omega))))
  rintro ee w1 ⟨rfl, hb1⟩
  obtain ⟨hc1, hf1, _⟩ := bcell hb1; have hz1 := hb1.size; (try simp at hz1); (try have hx10 : w.heap.size < w1.heap.size := (by omega)); (try have hx11 : w.heap.size + 1 < w1.heap.size := (by omega)); (try have hx12 : w.heap.size + 1 + 1 < w1.heap.size := (by omega)); (try have hx13 : w.heap.size + 1 + 1 + 1 < w1.heap.size := (by omega))
  have Xa1 : Hid (Bx w1 (w.heap.size) 30 #[.int .i64 r, .int .i64 c, .slice A n cp]) := by show Bx _ _ _ _; (repeat' (first | (with_reducible assumption) | (refine Bx.new (by first | (with_reducible rfl) | (simp; done))) | (with_reducible refine Bx.alloc ?_ _) | (with_reducible refine Bx.drew ?_) | (with_reducible refine Bx.drewN ?_ _) | (with_reducible refine Bx.mono ?_ (by assumption)) | (with_reducible refine Bx.badly ?_ (by assumption) (by omega)) | (with_reducible refine Bx.far ?_ (by (try simp only [World.size_alloc, World.size_drew]); omega)) | (with_reducible refine Bx.set ?_ rfl) | (with_reducible refine Bx.grown ?_ (by assumption) (by assumption))))
  have Xb1 : Hid (Bx w1 (w.heap.size + 1) 30 #[.int .i64 r', .int .i64 c', .slice B m cp']) := by show Bx _ _ _ _; (repeat' (first | (with_reducible assumption) | (refine Bx.new (by first | (with_reducible rfl) | (simp; done))) | (with_reducible refine Bx.alloc ?_ _) | (with_reducible refine Bx.drew ?_) | (with_reducible refine Bx.drewN ?_ _) | (with_reducible refine Bx.mono ?_ (by assumption)) | (with_reducible refine Bx.badly ?_ (by assumption) (by omega)) | (with_reducible refine Bx.far ?_ (by (try simp only [World.size_alloc, World.size_drew]); omega)) | (with_reducible refine Bx.set ?_ rfl) | (with_reducible refine Bx.grown ?_ (by assumption) (by assumption))))
  have hw1 : Below w.heap.size w w1 := by (repeat' (first | (with_reducible exact Below.refl _ _) | (with_reducible assumption) | (with_reducible refine Below.alloc ?_ ?_ _) | (with_reducible refine Below.drew ?_) | (with_reducible refine below_drewN ?_ _) | (with_reducible refine Below.setCell ?_ ?_ _) | (with_reducible refine chain ?_ (by assumption) ?_) | omega | (simp; done) | (simp; omega)))
  go_wp2_with (fail)
  refine (vm_i_t (xs := ys) HP.out ?_ HM.out).mono ?_
  · exact HB.out.mono (by (repeat' (first | (with_reducible exact Below.refl _ _) | (with_reducible assumption) | (with_reducible refine Below.alloc ?_ ?_ _) | (with_reducible refine Below.drew ?_) | (with_reducible refine below_drewN ?_ _) | (with_reducible refine Below.setCell ?_ ?_ _) | (with_reducible refine chain ?_ (by assumption) ?_) | omega | (simp; done) | (simp; omega))))
  rintro ee w2 ⟨rfl, hb2⟩
  have hz2 := hb2.size
  have hw2 : Below w.heap.size w w2 := chain hw1 hb2 hw1.size
  have Xa2 := hid (Xa1.out.mono hb2)
  have Xb2 := hid (Xb1.out.mono hb2)
  clear Xa1 Xb1 hc1 hf1
  have ca0 := Xa2.out.c 0 rfl
  have ca1 := Xa2.out.c 1 rfl
  have ca2 := Xa2.out.c 2 rfl
  have cb0 := Xb2.out.c 0 rfl
  have cb1 := Xb2.out.c 1 rfl
  have cb2 := Xb2.out.c 2 rfl
  have la := Xa2.out.lt
  have lb := Xb2.out.lt
  go_wp2_with (fail)
  go_loopg [16] 8 (fun q s1 wr => ∃ k : Nat, k + q = 8 ∧ s1 = .int .i64 (k : Int) ∧ Hid (Bx wr (w.heap.size) 30 #[.int .i64 r, .int .i64 c, .slice A n cp]) ∧ Hid (Bx wr (w.heap.size + 1) 30 #[.int .i64 r', .int .i64 c', .slice B m cp']) ∧ Hid (∀ i, i < k → badK r c r' c' n xs ys i = true) ∧ w2.heap.size ≤ wr.heap.size ∧ Below w.heap.size w wr)
  case atStart => exact ⟨0, by omega, rfl, Xa2, Xb2, fun i hi => absurd hi (Nat.not_lt_zero i), Nat.le_refl _, hw2⟩
  case round =>
    clear ca0 ca1 ca2 cb0 cb1 cb2 la lb
    clear Xa2 Xb2
    obtain ⟨k, hk, rfl, Xa, Xb, HJ, hsz, hB⟩ := hrel
    have ca0 := Xa.out.c 0 rfl
    have ca1 := Xa.out.c 1 rfl
    have ca2 := Xa.out.c 2 rfl
    have cb0 := Xb.out.c 0 rfl
    have cb1 := Xb.out.c 1 rfl
    have cb2 := Xb.out.c 2 rfl
    have la := Xa.out.lt
    have lb := Xb.out.lt
    have hBq := hB.size
    cases gk with
    | zero =>
      obtain rfl : k = 8 := by omega
      go_wp2_with (fail)
      refine bodyPost_ret (v := .tuple #[.int .i64 0, .bool false, .bool true]) (by first | (simp [results, Try.results68, go_sem, *]; done) | (simp (disch := (first | omega | (simp; done) | (simp; omega))) [results, Try.results68, go_sem, *]; done) | (simp only [results, Try.results68]; go_simp; done)) rfl (PH.none HJ.out rfl (by (repeat' (first | (with_reducible exact Below.refl _ _) | (with_reducible assumption) | (with_reducible refine Below.alloc ?_ ?_ _) | (with_reducible refine Below.drew ?_) | (with_reducible refine below_drewN ?_ _) | (with_reducible refine Below.setCell ?_ ?_ _) | (with_reducible refine chain ?_ (by assumption) ?_) | omega | (simp; done) | (simp; omega)))))
    | succ m9 =>
      have hk8 : k < 8 := by omega
      have k1 : (k : Int) < 8 := by omega
      cases hq : badK r c r' c' n xs ys k
      · have HQ := hid hq
        clear hq
        go_wp2_with (fail)
        have yca0 : wr.drew.cell? ⟨w.heap.size, 0, none⟩ = some (.int .i64 r) := ca0
        have yca1 : wr.drew.cell? ⟨w.heap.size, 1, none⟩ = some (.int .i64 c) := ca1
        have yca2 : wr.drew.cell? ⟨w.heap.size, 2, none⟩ = some (.slice A n cp) := ca2
        have ycb0 : wr.drew.cell? ⟨w.heap.size + 1, 0, none⟩ = some (.int .i64 r') := cb0
        have ycb1 : wr.drew.cell? ⟨w.heap.size + 1, 1, none⟩ = some (.int .i64 c') := cb1
        have ycb2 : wr.drew.cell? ⟨w.heap.size + 1, 2, none⟩ = some (.slice B m cp') := cb2
        refine wp_region_x (fun w' => w'.cell? ⟨w.heap.size, 0, none⟩ = some (.int .i64 r) ∧ w'.cell? ⟨w.heap.size, 1, none⟩ = some (.int .i64 c) ∧ w'.cell? ⟨w.heap.size, 2, none⟩ = some (.slice A n cp) ∧ w'.cell? ⟨w.heap.size + 1, 0, none⟩ = some (.int .i64 r') ∧ w'.cell? ⟨w.heap.size + 1, 1, none⟩ = some (.int .i64 c') ∧ w'.cell? ⟨w.heap.size + 1, 2, none⟩ = some (.slice B m cp')) 1000 (by kernel_rfl) ⟨yca0, yca1, yca2, ycb0, ycb1, ycb2⟩ (fun hS0 => ?_)
        refine wpAnyX_take (i := 0) (oi := _) (v := ?_) rfl (by kernel_rfl) (by kernel_rfl) (by kernel_rfl) (by kernel_rfl) (fun _ _ _ h => h) (Or.inl ⟨by rfl, ?_⟩) hS0 ?_
        rotate_left 1
        · (intro w hSw; (try dsimp only at hSw); go_simp; (try with_reducible rfl))
        try simp only [Act.put, List.setIfInBounds_toArray, List.set_cons_zero, List.set_cons_succ]
        refine wpAnyX_take (i := 1) (oi := _) (v := ?_) rfl (by kernel_rfl) (by kernel_rfl) (by kernel_rfl) (by kernel_rfl) (fun _ _ _ h => h) (Or.inl ⟨by rfl, ?_⟩) hS0 ?_
        rotate_left 1
        · (intro w hSw; (try dsimp only at hSw); go_simp; (try with_reducible rfl))
        try simp only [Act.put, List.setIfInBounds_toArray, List.set_cons_zero, List.set_cons_succ]
        refine wpAnyX_take (i := 2) (oi := _) (v := ?_) rfl (by kernel_rfl) (by kernel_rfl) (by kernel_rfl) (by kernel_rfl) (fun _ _ _ h => h) (Or.inl ⟨by rfl, ?_⟩) hS0 ?_
        rotate_left 1
        · (intro w hSw; (try dsimp only at hSw); go_simp; (try with_reducible rfl))
        try simp only [Act.put, List.setIfInBounds_toArray, List.set_cons_zero, List.set_cons_succ]
        refine wpAnyX_one (i := 3) (o := _) rfl (by kernel_rfl) (fun K hK => ?_)
        go_simp
        refine (omp (m := k) hk8 (by omega) (by omega) (by omega)).mono ?_
        rintro ee w8 ⟨rfl, hb80⟩
        have hb8 := undrewE hb80
        have hz8 := hb8.size
        have hB8 : Below w.heap.size w w8 := chain hB hb8 hBq
        refine hK.out _ _ (fun _ => ?_) (fun hS1 => ?_)
        · exact ⟨kc hb80 (hS0.1), kc hb80 (hS0.2.1), kc hb80 (hS0.2.2.1), kc hb80 (hS0.2.2.2.1), kc hb80 (hS0.2.2.2.2.1), kc hb80 (hS0.2.2.2.2.2)⟩
        clear hK K
        have hS1 := hS1 (by decide)
        try simp only [Act.put, List.setIfInBounds_toArray, List.set_cons_zero, List.set_cons_succ]
        refine wpAnyX_one (i := 4) (o := _) rfl (by kernel_rfl) (fun K hK => ?_)
        go_simp
        refine (im_y (r := r) (c := c) (r' := r') (c' := c') (n := n) (m := m) (k := k) (xs := xs) (ys := ys) (HA.out.mono hB8) (HB.out.mono hB8) HN.out HM.out hn5 HD.out hk8 HY.out HQ.out).mono ?_
        rintro ee w9 ⟨rfl, hb9⟩
        have hz9 := hb9.size
        have hB9 : Below w.heap.size w w9 := chain hB8 hb9 hB8.size
        refine hK.out _ _ (fun _ => ?_) (fun hS2 => ?_)
        · exact ⟨kc hb9 (hS1.1), kc hb9 (hS1.2.1), kc hb9 (hS1.2.2.1), kc hb9 (hS1.2.2.2.1), kc hb9 (hS1.2.2.2.2.1), kc hb9 (hS1.2.2.2.2.2)⟩
        clear hK K
        have hS2 := hS2 (by decide)
        try simp only [Act.put, List.setIfInBounds_toArray, List.set_cons_zero, List.set_cons_succ]
        refine wpAnyX_done (by kernel_rfl) ?_ _
        go_wp2_with (fail)
        refine bodyPost_ret (v := .tuple #[.int .i64 (k : Int), .bool true, .bool true]) (by first | (simp [results, Try.results68, go_sem, *]; done) | (simp (disch := (first | omega | (simp; done) | (simp; omega))) [results, Try.results68, go_sem, *]; done) | (simp only [results, Try.results68]; go_simp; done)) rfl (PH.found hk8 HJ.out HQ.out rfl (by (repeat' (first | (with_reducible exact Below.refl _ _) | (with_reducible assumption) | (with_reducible refine Below.alloc ?_ ?_ _) | (with_reducible refine Below.drew ?_) | (with_reducible refine below_drewN ?_ _) | (with_reducible refine Below.setCell ?_ ?_ _) | (with_reducible refine chain ?_ (by assumption) ?_) | omega | (simp; done) | (simp; omega)))))
      · have HQ := hid hq
        clear hq
        go_wp2_with (fail)
        have yca0 : wr.drew.cell? ⟨w.heap.size, 0, none⟩ = some (.int .i64 r) := ca0
        have yca1 : wr.drew.cell? ⟨w.heap.size, 1, none⟩ = some (.int .i64 c) := ca1
        have yca2 : wr.drew.cell? ⟨w.heap.size, 2, none⟩ = some (.slice A n cp) := ca2
        have ycb0 : wr.drew.cell? ⟨w.heap.size + 1, 0, none⟩ = some (.int .i64 r') := cb0
        have ycb1 : wr.drew.cell? ⟨w.heap.size + 1, 1, none⟩ = some (.int .i64 c') := cb1
        have ycb2 : wr.drew.cell? ⟨w.heap.size + 1, 2, none⟩ = some (.slice B m cp') := cb2
        refine wp_region_x (fun w' => w'.cell? ⟨w.heap.size, 0, none⟩ = some (.int .i64 r) ∧ w'.cell? ⟨w.heap.size, 1, none⟩ = some (.int .i64 c) ∧ w'.cell? ⟨w.heap.size, 2, none⟩ = some (.slice A n cp) ∧ w'.cell? ⟨w.heap.size + 1, 0, none⟩ = some (.int .i64 r') ∧ w'.cell? ⟨w.heap.size + 1, 1, none⟩ = some (.int .i64 c') ∧ w'.cell? ⟨w.heap.size + 1, 2, none⟩ = some (.slice B m cp')) 1000 (by kernel_rfl) ⟨yca0, yca1, yca2, ycb0, ycb1, ycb2⟩ (fun hS0 => ?_)
        refine wpAnyX_take (i := 0) (oi := _) (v := ?_) rfl (by kernel_rfl) (by kernel_rfl) (by kernel_rfl) (by kernel_rfl) (fun _ _ _ h => h) (Or.inl ⟨by rfl, ?_⟩) hS0 ?_
        rotate_left 1
        · (intro w hSw; (try dsimp only at hSw); go_simp; (try with_reducible rfl))
        try simp only [Act.put, List.setIfInBounds_toArray, List.set_cons_zero, List.set_cons_succ]
        refine wpAnyX_take (i := 1) (oi := _) (v := ?_) rfl (by kernel_rfl) (by kernel_rfl) (by kernel_rfl) (by kernel_rfl) (fun _ _ _ h => h) (Or.inl ⟨by rfl, ?_⟩) hS0 ?_
        rotate_left 1
        · (intro w hSw; (try dsimp only at hSw); go_simp; (try with_reducible rfl))
        try simp only [Act.put, List.setIfInBounds_toArray, List.set_cons_zero, List.set_cons_succ]
        refine wpAnyX_take (i := 2) (oi := _) (v := ?_) rfl (by kernel_rfl) (by kernel_rfl) (by kernel_rfl) (by kernel_rfl) (fun _ _ _ h => h) (Or.inl ⟨by rfl, ?_⟩) hS0 ?_
        rotate_left 1
        · (intro w hSw; (try dsimp only at hSw); go_simp; (try with_reducible rfl))
        try simp only [Act.put, List.setIfInBounds_toArray, List.set_cons_zero, List.set_cons_succ]
        refine wpAnyX_one (i := 3) (o := _) rfl (by kernel_rfl) (fun K hK => ?_)
        go_simp
        refine (omp (m := k) hk8 (by omega) (by omega) (by omega)).mono ?_
        rintro ee w8 ⟨rfl, hb80⟩
        have hb8 := undrewE hb80
        have hz8 := hb8.size
        have hB8 : Below w.heap.size w w8 := chain hB hb8 hBq
        refine hK.out _ _ (fun _ => ?_) (fun hS1 => ?_)
        · exact ⟨kc hb80 (hS0.1), kc hb80 (hS0.2.1), kc hb80 (hS0.2.2.1), kc hb80 (hS0.2.2.2.1), kc hb80 (hS0.2.2.2.2.1), kc hb80 (hS0.2.2.2.2.2)⟩
        clear hK K
        have hS1 := hS1 (by decide)
        try simp only [Act.put, List.setIfInBounds_toArray, List.set_cons_zero, List.set_cons_succ]
        refine wpAnyX_one (i := 4) (o := _) rfl (by kernel_rfl) (fun K hK => ?_)
        go_simp
        refine (im_n (r := r) (c := c) (r' := r') (c' := c') (n := n) (m := m) (k := k) (xs := xs) (ys := ys) (HA.out.mono hB8) (HB.out.mono hB8) HN.out HM.out hn5 HD.out hk8 HY.out HQ.out).mono ?_
        rintro ee w9 ⟨rfl, hb9⟩
        have hz9 := hb9.size
        have hB9 : Below w.heap.size w w9 := chain hB8 hb9 hB8.size
        refine hK.out _ _ (fun _ => ?_) (fun hS2 => ?_)
        · exact ⟨kc hb9 (hS1.1), kc hb9 (hS1.2.1), kc hb9 (hS1.2.2.1), kc hb9 (hS1.2.2.2.1), kc hb9 (hS1.2.2.2.2.1), kc hb9 (hS1.2.2.2.2.2)⟩
        clear hK K
        have hS2 := hS2 (by decide)
        try simp only [Act.put, List.setIfInBounds_toArray, List.set_cons_zero, List.set_cons_succ]
        refine wpAnyX_done (by kernel_rfl) ?_ _
        go_wp2_with (fail)
        go_roundg m9
        case measure => omega
        case rel =>
          refine ⟨k + 1, by omega, by go_num, hid ((Xa.out.mono hb8).mono hb9), hid ((Xb.out.mono hb8).mono hb9), ?_, by omega, hB9⟩
          show ∀ i, i < k + 1 → _
          intro i hi
          by_cases e : i = k
          · subst e; exact HQ.out
          · exact HJ.out i (by omega)

set_option maxRecDepth 100000 in
set_option maxHeartbeats 4000000 in
theorem lt_r {r c r' c' : Int} {A B : Option Addr} {n m cp cp' k : Nat} {w : World} (h : r ≠ r') :
    Calls Try.prog 116 #[mv r c A n cp, mv r' c' B m cp', .int .i64 (k : Int)] w fun ee w' => ee = .returned (.bool false) ∧ Below w.heap.size w w' := by
  have h1 : (r == r') = false := by simpa using h
  have h2 : (r != r') = true := by simpa using h
  clear h
  go_enter Try.func116, Try.ntmps116
  go_wp2_with (fail)
  go_ret
  refine ⟨rfl, ?_⟩
  (repeat' (first | (with_reducible exact Below.refl _ _) | (with_reducible assumption) | (with_reducible refine Below.alloc ?_ ?_ _) | (with_reducible refine Below.drew ?_) | (with_reducible refine below_drewN ?_ _) | (with_reducible refine Below.setCell ?_ ?_ _) | (with_reducible refine chain ?_ (by assumption) ?_) | omega | (simp; done) | (simp; omega)))

set_option maxRecDepth 100000 in
set_option maxHeartbeats 4000000 in
theorem lt_c {r c r' c' : Int} {A B : Option Addr} {n m cp cp' k : Nat} {w : World} (h0 : r = r') (h : c ≠ c') :
    Calls Try.prog 116 #[mv r c A n cp, mv r' c' B m cp', .int .i64 (k : Int)] w fun ee w' => ee = .returned (.bool false) ∧ Below w.heap.size w w' := by
  subst h0
  have h1 : (c == c') = false := by simpa using h
  have h2 : (c != c') = true := by simpa using h
  clear h
  go_enter Try.func116, Try.ntmps116
  go_wp2_with (fail)
  go_ret
  refine ⟨rfl, ?_⟩
  (repeat' (first | (with_reducible exact Below.refl _ _) | (with_reducible assumption) | (with_reducible refine Below.alloc ?_ ?_ _) | (with_reducible refine Below.drew ?_) | (with_reducible refine below_drewN ?_ _) | (with_reducible refine Below.setCell ?_ ?_ _) | (with_reducible refine chain ?_ (by assumption) ?_) | omega | (simp; done) | (simp; omega)))

theorem turn_v {m : Nat} {x : D5} : (turn m x).v = dy (turn m x).a (turn m x).b (turn m x).c (turn m x).d x.e := by
  show dy _ _ _ _ (turn m x).e = _
  rw [turn_e]
theorem ok_vr {x : D5} (h : x.ok = true) : vr x.a x.b x.c x.d = true := by
  obtain ⟨e, h1, h2⟩ := ok_nat h
  exact (vd_iff.1 h2).1
theorem tn_x {x : D5} {m : Nat} {w : World} (hm : m < 8) (hx : x.ok = true) :
    Calls Try.prog 161 #[rg x.a x.b x.c x.d, .int .i64 (m : Int)] w fun ee w' => ee = .returned (rg (turn m x).a (turn m x).b (turn m x).c (turn m x).d) ∧ Below w.heap.size w w' :=
  tn_s (e := x.e) hm (by omega) (ok_vr hx)

set_option maxRecDepth 100000 in
set_option maxHeartbeats 8000000 in
theorem lt_l {r c : Int} {A B : Option Addr} {n cp cp' k : Nat} {xs ys : List D5} {w : World} (hA : Rd w A xs) (hB : Rd w B ys) (hn : xs.length = n) (hm : ys.length = n) (hb : n ≤ 1048576) (hk : k < 8) (hy : allB ys = true) :
    Calls Try.prog 116 #[mv r c A n cp, mv r c B n cp', .int .i64 (k : Int)] w fun ee w' => EF w w' ee (anyB n (neB k xs ys)) := by
  have HA := hid hA
  have HB := hid hB
  have HN := hid hn
  have HM := hid hm
  have HY := hid hy
  have HK := hid hk
  clear hA hB hn hm hy hk
  go_enter Try.func116, Try.ntmps116
  go_wp2_with (fail)
  go_loopg [24] n (fun q s1 wr => ∃ j : Nat, j + q = n ∧ s1 = .int .i64 (j : Int) ∧ Hid (Bx wr (w.heap.size) 30 #[.int .i64 r, .int .i64 c, .slice A n cp]) ∧ Hid (Bx wr (w.heap.size + 1) 30 #[.int .i64 r, .int .i64 c, .slice B n cp']) ∧ Hid (∀ i, i < j → neB k xs ys i = false) ∧ w.heap.size + 1 + 1 ≤ wr.heap.size ∧ Below w.heap.size w wr)
  case atStart => exact ⟨0, by omega, rfl, (by show Bx _ _ _ _; (repeat' (first | (with_reducible assumption) | (refine Bx.new (by first | (with_reducible rfl) | (simp; done))) | (with_reducible refine Bx.alloc ?_ _) | (with_reducible refine Bx.drew ?_) | (with_reducible refine Bx.drewN ?_ _) | (with_reducible refine Bx.mono ?_ (by assumption)) | (with_reducible refine Bx.badly ?_ (by assumption) (by omega)) | (with_reducible refine Bx.far ?_ (by (try simp only [World.size_alloc, World.size_drew]); omega)) | (with_reducible refine Bx.set ?_ rfl) | (with_reducible refine Bx.grown ?_ (by assumption) (by assumption))))), (by show Bx _ _ _ _; (repeat' (first | (with_reducible assumption) | (refine Bx.new (by first | (with_reducible rfl) | (simp; done))) | (with_reducible refine Bx.alloc ?_ _) | (with_reducible refine Bx.drew ?_) | (with_reducible refine Bx.drewN ?_ _) | (with_reducible refine Bx.mono ?_ (by assumption)) | (with_reducible refine Bx.badly ?_ (by assumption) (by omega)) | (with_reducible refine Bx.far ?_ (by (try simp only [World.size_alloc, World.size_drew]); omega)) | (with_reducible refine Bx.set ?_ rfl) | (with_reducible refine Bx.grown ?_ (by assumption) (by assumption))))), fun i hi => absurd hi (Nat.not_lt_zero i), by simp, by (repeat' (first | (with_reducible exact Below.refl _ _) | (with_reducible assumption) | (with_reducible refine Below.alloc ?_ ?_ _) | (with_reducible refine Below.drew ?_) | (with_reducible refine below_drewN ?_ _) | (with_reducible refine Below.setCell ?_ ?_ _) | (with_reducible refine chain ?_ (by assumption) ?_) | omega | (simp; done) | (simp; omega)))⟩
  case round =>
    obtain ⟨j, hj, rfl, Xa, Xb, HJ, hsz, hB⟩ := hrel
    have ca0 := Xa.out.c 0 rfl
    have ca1 := Xa.out.c 1 rfl
    have ca2 := Xa.out.c 2 rfl
    have cb0 := Xb.out.c 0 rfl
    have cb1 := Xb.out.c 1 rfl
    have cb2 := Xb.out.c 2 rfl
    have la := Xa.out.lt
    have lb := Xb.out.lt
    have hBq := hB.size
    cases gk with
    | zero =>
      obtain rfl : j = n := by omega
      go_wp2_with (fail)
      go_ret
      refine ⟨fun h => ?_, fun _ => rfl, hB⟩
      rw [anyB_f HJ.out] at h; cases h
    | succ m =>
      have hlt : j < n := by omega
      have j1 : (j : Int) < (n : Int) := by omega
      obtain ⟨x, hx⟩ : ∃ x, xs[j]? = some x := ⟨_, List.getElem?_eq_getElem (by rw [HN.out]; exact hlt)⟩
      obtain ⟨y, hy⟩ : ∃ y, ys[j]? = some y := ⟨_, List.getElem?_eq_getElem (by rw [HM.out]; exact hlt)⟩
      obtain ⟨g, o, rfl, hC⟩ := HA.out j x hx
      obtain ⟨g', o', rfl, hC'⟩ := HB.out j y hy
      have HKy := hid (all_get HY.out hy)
      have HX := hid hx
      have HYj := hid hy
      clear hx hy
      obtain ⟨q0, q1, q2, q3, q4⟩ := hC.at_ (hB.block g hC.lt)
      obtain ⟨p0, p1, p2, p3, p4⟩ := hC'.at_ (hB.block g' hC'.lt)
      have lq := World.block_lt_of_cell? _ _ q0
      have lp := World.block_lt_of_cell? _ _ p0
      (try dsimp only at lq lp)
      clear hC hC'
      go_wp2_with (fail)
      refine (tn_x (x := y) (m := k) HK.out HKy.out).mono ?_
      rintro ee w1 ⟨rfl, hb1⟩
      have Xt : Bx w1 wr.heap.size 99 #[.int .i64 y.a, .int .i64 y.b, .int .i64 y.c, .int .i64 y.d, .int .i64 y.e] := Bx.mono (Bx.new rfl) hb1
      have hz1 := hb1.size
      (try simp only [World.size_alloc] at hz1)
      have hb2 : Below wr.heap.size wr w1 := chain ((Below.refl _ _).alloc (Nat.le_refl _) _) hb1 (by simp)
      have hB1 : Below w.heap.size w w1 := chain hB hb2 hBq
      have Ya := hid (Xa.out.mono hb2)
      have Yb := hid (Xb.out.mono hb2)
      have d0 := Xt.c 0 rfl
      have d1 := Xt.c 1 rfl
      have d2 := Xt.c 2 rfl
      have d3 := Xt.c 3 rfl
      have d4 := Xt.c 4 rfl
      have df := Xt.f
      have z0 := kc hb2 q0
      have z1 := kc hb2 q1
      have z2 := kc hb2 q2
      have z3 := kc hb2 q3
      have z4 := kc hb2 q4
      have HXT := hid Xt
      clear ca0 ca1 ca2 cb0 cb1 cb2 q0 q1 q2 q3 q4 p0 p1 p2 p3 p4 Xa Xb Xt
      have ca0 := Ya.out.c 0 rfl
      have ca1 := Ya.out.c 1 rfl
      have ca2 := Ya.out.c 2 rfl
      have n1 : g ≠ wr.heap.size := by omega
      have n2 : w.heap.size ≠ wr.heap.size := by omega
      have n3 : wr.heap.size ≠ w.heap.size := by omega
      have n4 : wr.heap.size ≠ g := by omega
      clear hb1 hb2
      by_cases hxy : x = turn k y
      · have HXY := hid hxy
        have hop : ∀ w : World, (binOp .neq 99 x.v (dy (turn k y).a (turn k y).b (turn k y).c (turn k y).d y.e)).run Try.prog w = .ok (.bool false) w := fun w => by rw [← turn_v]; rw [← hxy]; exact neq_f x w
        clear hxy
        go_wp2_with (fail)
        go_quiet (fail)
        go_wp2_with (fail)
        go_roundg m
        case measure => omega
        case rel =>
          refine ⟨j + 1, by omega, by go_num, ?_, ?_, ?_, by rw [show ∀ (X : World) (n : Nat), (X.drewN n).heap.size = X.heap.size from fun _ _ => rfl]; simp only [World.size_setCell]; omega, (by (repeat' (first | (with_reducible exact Below.refl _ _) | (with_reducible assumption) | (with_reducible refine Below.alloc ?_ ?_ _) | (with_reducible refine Below.drew ?_) | (with_reducible refine below_drewN ?_ _) | (with_reducible refine Below.setCell ?_ ?_ _) | (with_reducible refine chain ?_ (by assumption) ?_) | omega | (simp; done) | (simp; omega))))⟩
          · show Bx _ _ _ _
            have R := Ya.out
            (repeat' (first | (with_reducible assumption) | (with_reducible refine Bx.alloc ?_ _) | (with_reducible refine Bx.drew ?_) | (with_reducible refine Bx.drewN ?_ _) | (with_reducible refine Bx.mono ?_ (by assumption)) | (with_reducible refine Bx.badly ?_ (by assumption) (by omega)) | (with_reducible refine Bx.far ?_ (by (try simp only [World.size_alloc, World.size_drew]); omega)) | (with_reducible refine Bx.set ?_ rfl) | (with_reducible refine Bx.grown ?_ (by assumption) (by assumption))))
          · show Bx _ _ _ _
            have R := Yb.out
            (repeat' (first | (with_reducible assumption) | (with_reducible refine Bx.alloc ?_ _) | (with_reducible refine Bx.drew ?_) | (with_reducible refine Bx.drewN ?_ _) | (with_reducible refine Bx.mono ?_ (by assumption)) | (with_reducible refine Bx.badly ?_ (by assumption) (by omega)) | (with_reducible refine Bx.far ?_ (by (try simp only [World.size_alloc, World.size_drew]); omega)) | (with_reducible refine Bx.set ?_ rfl) | (with_reducible refine Bx.grown ?_ (by assumption) (by assumption))))
          · show ∀ i, i < j + 1 → _
            intro i hi
            by_cases e : i = j
            · subst e; exact neB_f HX.out HYj.out HXY.out
            · exact HJ.out i (by omega)
      · have HXY := hid hxy
        have hop : ∀ w : World, (binOp .neq 99 x.v (dy (turn k y).a (turn k y).b (turn k y).c (turn k y).d y.e)).run Try.prog w = .ok (.bool true) w := fun w => by rw [← turn_v]; exact neq_t hxy w
        clear hxy
        go_wp2_with (fail)
        go_quiet (fail)
        go_wp2_with (fail)
        go_ret
        refine ⟨fun _ => rfl, fun h => ?_, ?_⟩
        · rw [anyB_of hlt (neB_t HX.out HYj.out HXY.out)] at h; cases h
        · (repeat' (first | (with_reducible exact Below.refl _ _) | (with_reducible assumption) | (with_reducible refine Below.alloc ?_ ?_ _) | (with_reducible refine Below.drew ?_) | (with_reducible refine below_drewN ?_ _) | (with_reducible refine Below.setCell ?_ ?_ _) | (with_reducible refine chain ?_ (by assumption) ?_) | omega | (simp; done) | (simp; omega)))

end Go.Proofs.Ytofclfgaekjonaa
namespace Go.Proofs.Ytofclfgaekjonaa
open Go.RowKit RM
set_option linter.unusedVariables false
set_option linter.unusedSimpArgs false
attribute [local irreducible] World.setCell

theorem lt {r c r' c' : Int} {A B : Option Addr} {n m cp cp' k : Nat} {xs ys : List D5} {w : World} (hA : Rd w A xs) (hB : Rd w B ys) (hn : xs.length = n) (hm : ys.length = m) (hb : n ≤ 1048576) (hd : r = r' → c = c' → n = m) (hk : k < 8) (hy : allB ys = true) :
    Calls Try.prog 116 #[mv r c A n cp, mv r' c' B m cp', .int .i64 (k : Int)] w fun ee w' => EF w w' ee (badK r c r' c' n xs ys k) := by
  by_cases hr : r = r'
  · by_cases hc : c = c'
    · subst hr hc
      obtain rfl := hd rfl rfl
      refine (lt_l hA hB hn hm hb hk hy).mono fun ee w' h => ?_
      unfold badK
      rw [show (r != r) = false by simp, show (c != c) = false by simp, Bool.false_or, Bool.false_or]
      exact h
    · refine (lt_c hr hc).mono fun ee w' h => ⟨fun _ => h.1, fun h2 => ?_, h.2⟩
      unfold badK at h2
      rw [show (c != c') = true by simpa using hc] at h2
      simp at h2
  · refine (lt_r hr).mono fun ee w' h => ⟨fun _ => h.1, fun h2 => ?_, h.2⟩
    unfold badK at h2
    rw [show (r != r') = true by simpa using hr] at h2
    simp at h2

set_option maxRecDepth 100000 in
set_option maxHeartbeats 8000000 in
theorem lp {r c r' c' : Int} {A B : Option Addr} {n m cp cp' : Nat} {xs ys : List D5} {w : World} (hA : Rd w A xs) (hB : Rd w B ys) (hn : xs.length = n) (hm : ys.length = m) (hb : n ≤ 1048576) (hd : r = r' → c = c' → n = m) (hy : allB ys = true) :
    Calls Try.prog 65 #[mv r c A n cp, mv r' c' B m cp'] w fun ee w' => PH mk2 (badK r c r' c' n xs ys) w w' ee := by
  have HA := hid hA
  have HB := hid hB
  have HN := hid hn
  have HM := hid hm
  have HD := hid hd
  have HY := hid hy
  clear hA hB hn hm hd hy
  go_enter Try.func65, Try.ntmps65
  go_wp2_with (fail)
  go_loopg [6] 8 (fun q s1 wr => ∃ k : Nat, k + q = 8 ∧ s1 = .int .i64 (k : Int) ∧ Hid (Bx wr (w.heap.size) 30 #[.int .i64 r, .int .i64 c, .slice A n cp]) ∧ Hid (Bx wr (w.heap.size + 1) 30 #[.int .i64 r', .int .i64 c', .slice B m cp']) ∧ Hid (∀ i, i < k → badK r c r' c' n xs ys i = true) ∧ w.heap.size + 1 + 1 ≤ wr.heap.size ∧ Below w.heap.size w wr)
  case atStart => exact ⟨0, by omega, rfl, (by show Bx _ _ _ _; (repeat' (first | (with_reducible assumption) | (refine Bx.new (by first | (with_reducible rfl) | (simp; done))) | (with_reducible refine Bx.alloc ?_ _) | (with_reducible refine Bx.drew ?_) | (with_reducible refine Bx.drewN ?_ _) | (with_reducible refine Bx.mono ?_ (by assumption)) | (with_reducible refine Bx.badly ?_ (by assumption) (by omega)) | (with_reducible refine Bx.far ?_ (by (try simp only [World.size_alloc, World.size_drew]); omega)) | (with_reducible refine Bx.set ?_ rfl) | (with_reducible refine Bx.grown ?_ (by assumption) (by assumption))))), (by show Bx _ _ _ _; (repeat' (first | (with_reducible assumption) | (refine Bx.new (by first | (with_reducible rfl) | (simp; done))) | (with_reducible refine Bx.alloc ?_ _) | (with_reducible refine Bx.drew ?_) | (with_reducible refine Bx.drewN ?_ _) | (with_reducible refine Bx.mono ?_ (by assumption)) | (with_reducible refine Bx.badly ?_ (by assumption) (by omega)) | (with_reducible refine Bx.far ?_ (by (try simp only [World.size_alloc, World.size_drew]); omega)) | (with_reducible refine Bx.set ?_ rfl) | (with_reducible refine Bx.grown ?_ (by assumption) (by assumption))))), fun i hi => absurd hi (Nat.not_lt_zero i), by simp, by (repeat' (first | (with_reducible exact Below.refl _ _) | (with_reducible assumption) | (with_reducible refine Below.alloc ?_ ?_ _) | (with_reducible refine Below.drew ?_) | (with_reducible refine below_drewN ?_ _) | (with_reducible refine Below.setCell ?_ ?_ _) | (with_reducible refine chain ?_ (by assumption) ?_) | omega | (simp; done) | (simp; omega)))⟩
  case round =>
    obtain ⟨k, hk, rfl, Xa, Xb, HJ, hsz, hB⟩ := hrel
    have ca0 := Xa.out.c 0 rfl
    have ca1 := Xa.out.c 1 rfl
    have ca2 := Xa.out.c 2 rfl
    have cb0 := Xb.out.c 0 rfl
    have cb1 := Xb.out.c 1 rfl
    have cb2 := Xb.out.c 2 rfl
    have la := Xa.out.lt
    have lb := Xb.out.lt
    have hBq := hB.size
    cases gk with
    | zero =>
      obtain rfl : k = 8 := by omega
      go_wp2_with (fail)
      refine bodyPost_ret (v := .tuple #[.int .i64 0, .bool false]) (by first | (simp [results, Try.results65, go_sem, *]; done) | (simp (disch := (first | omega | (simp; done) | (simp; omega))) [results, Try.results65, go_sem, *]; done) | (simp only [results, Try.results65]; go_simp; done)) rfl (PH.none HJ.out rfl (by (repeat' (first | (with_reducible exact Below.refl _ _) | (with_reducible assumption) | (with_reducible refine Below.alloc ?_ ?_ _) | (with_reducible refine Below.drew ?_) | (with_reducible refine below_drewN ?_ _) | (with_reducible refine Below.setCell ?_ ?_ _) | (with_reducible refine chain ?_ (by assumption) ?_) | omega | (simp; done) | (simp; omega)))))
    | succ m9 =>
      have hk8 : k < 8 := by omega
      have k1 : (k : Int) < 8 := by omega
      cases hq : badK r c r' c' n xs ys k
      · have HQ := hid hq
        clear hq
        go_wp2_with (fail)
        refine (lt (k := k) (xs := xs) (ys := ys) (HA.out.mono hB) (HB.out.mono hB) HN.out HM.out hb HD.out hk8 HY.out).mono ?_
        rintro ee w9 ⟨h1, h2, hb9⟩
        obtain rfl := h2 HQ.out
        clear h1 h2
        have hz9 := hb9.size
        have hB9 : Below w.heap.size w w9 := chain hB hb9 hBq
        go_wp2_with (fail)
        refine bodyPost_ret (v := .tuple #[.int .i64 (k : Int), .bool true]) (by first | (simp [results, Try.results65, go_sem, *]; done) | (simp (disch := (first | omega | (simp; done) | (simp; omega))) [results, Try.results65, go_sem, *]; done) | (simp only [results, Try.results65]; go_simp; done)) rfl (PH.found hk8 HJ.out HQ.out rfl (by (repeat' (first | (with_reducible exact Below.refl _ _) | (with_reducible assumption) | (with_reducible refine Below.alloc ?_ ?_ _) | (with_reducible refine Below.drew ?_) | (with_reducible refine below_drewN ?_ _) | (with_reducible refine Below.setCell ?_ ?_ _) | (with_reducible refine chain ?_ (by assumption) ?_) | omega | (simp; done) | (simp; omega)))))
      · have HQ := hid hq
        clear hq
        go_wp2_with (fail)
        refine (lt (k := k) (xs := xs) (ys := ys) (HA.out.mono hB) (HB.out.mono hB) HN.out HM.out hb HD.out hk8 HY.out).mono ?_
        rintro ee w9 ⟨h1, h2, hb9⟩
        obtain rfl := h1 HQ.out
        clear h1 h2
        have hz9 := hb9.size
        have hB9 : Below w.heap.size w w9 := chain hB hb9 hBq
        go_wp2_with (fail)
        go_roundg m9
        case measure => omega
        case rel =>
          refine ⟨k + 1, by omega, by go_num, hid (Xa.out.mono hb9), hid (Xb.out.mono hb9), ?_, by omega, hB9⟩
          show ∀ i, i < k + 1 → _
          intro i hi
          by_cases e : i = k
          · subst e; exact HQ.out
          · exact HJ.out i (by omega)

end Go.Proofs.Ytofclfgaekjonaa
namespace Go.Proofs.Ytofclfgaekjonaa
open Go.RowKit RM
set_option linter.unusedVariables false
set_option linter.unusedSimpArgs false
attribute [local irreducible] World.setCell

open GM
end Go.Proofs.Ytofclfgaekjonaa
namespace Go.Proofs.Ytofclfgaekjonaa
open Go.RowKit RM
set_option linter.unusedVariables false
set_option linter.unusedSimpArgs false
attribute [local irreducible] World.setCell

open GM
end Go.Proofs.Ytofclfgaekjonaa
namespace Go.Proofs.Ytofclfgaekjonaa
open Go.RowKit RM
set_option linter.unusedVariables false
set_option linter.unusedSimpArgs false
attribute [local irreducible] World.setCell

open GM
theorem apl_ok {n D C : Nat} (hD : dimB (D : Int) = true) (hC : dimB (C : Int) = true) : ∀ (gs : List C4.GateV) (xs ys : List D5), (∀ (i : Nat) (g : C4.GateV), gs[i]? = some g → C4.vgB (n : Int) g = true) → okM (D : Int) (C : Int) (D * C) xs = true → apl n D C gs xs = some ys → okM (D : Int) (C : Int) (D * C) ys = true := by
  intro gs
  induction gs with
  | nil => intro xs ys _ hx h; obtain rfl := Option.some.inj h; exact hx
  | cons g gs ih =>
    intro xs ys hG hx h
    have h2 : (if stB n D C g xs then none else apl n D C gs (stF n D C g xs)) = some ys := h
    split at h2
    · cases h2
    · exact ih _ _ (fun i g hg => hG (i + 1) g (by rw [List.getElem?_cons_succ]; exact hg)) (stF_okM hD hC (vg_nat (hG 0 g rfl)).1 (okM_iff.1 hx).2.2.2) h2
theorem opL_ok {m n : Nat} {xs : List C4.GateV} {zs : List D5} (h1 : 1 ≤ m) (h5 : m ≤ 5) (hok : C4.okC (m : Int) n xs = true) (hq : opL m xs = some zs) : okM ((2 ^ m : Nat) : Int) ((2 ^ m : Nat) : Int) (2 ^ m * 2 ^ m) zs = true := by
  obtain ⟨m', e, -, -, -, hG⟩ := okC_nat hok
  obtain rfl : m = m' := by omega
  obtain ⟨d2, d32, dw, dw2, dd⟩ := pow_dim h1 h5 (D := 2 ^ m) rfl
  exact apl_ok dd dd xs _ zs hG (okM_iff.2 ⟨dd, dd, by simp, unit_ok _⟩) hq
end Go.Proofs.Ytofclfgaekjonaa
