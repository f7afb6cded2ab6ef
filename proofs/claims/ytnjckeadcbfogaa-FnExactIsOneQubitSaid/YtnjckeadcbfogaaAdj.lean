/- Contracts of the model of Adjoint. -/
import Derived.Test.YtnjckeadcbfogaaZq27
import Derived.Test.YtnjckeadcbfogaaZq18
namespace Go.Proofs.Ytnjckeadcbfogaa
open Go.RowKit RM
set_option linter.unusedVariables false
set_option linter.unusedSimpArgs false
attribute [local irreducible] World.setCell

/-- the conjugate -/
def conj5 (x : D5) : D5 := ⟨x.a, -x.d, -x.c, -x.b, x.e⟩
theorem cjs {x : D5} (h : x.ok = true) (w : World) : Calls Try.prog 110 #[x.v] w fun ee w' => ee = .returned (conj5 x).v ∧ Below w.heap.size w w' := by
  obtain ⟨a, b, c, d, e'⟩ := x
  obtain ⟨e, h1, h2⟩ := ok_nat h
  exact l2cj a b c d e' w (vd_iff.1 h2).1
theorem cji {x : D5} (h : x.ok = true) (w : World) : Calls Try.prog 148 #[x.v] w fun ee w' => ee = .returned (.tuple #[(conj5 x).v, .bool true]) ∧ Below w.heap.size w w' := by
  obtain ⟨a, b, c, d, e'⟩ := x
  obtain ⟨e, h1, h2⟩ := ok_nat h
  dsimp only at h1 h2
  subst h1
  exact cj_i_t a b c d e w h2
theorem vd_conj {a b c d : Int} {e : Nat} (h : vd a b c d e = true) : vd a (-d) (-c) (-b) e = true := by
  obtain ⟨h1, h2, h3⟩ := vd_iff.1 h
  refine vd_iff.2 ⟨?_, h2, ?_⟩
  · rw [vr_iff] at *; omega
  · rcases h3 with h3 | h3
    · exact Or.inl h3
    · refine Or.inr ?_
      cases hq : ev2 a (-d) (-c) (-b)
      · rfl
      · rw [← h3]
        simp only [ev2, Bool.and_eq_true, tm2''] at hq
        symm
        simp only [ev2, Bool.and_eq_true, tm2'']
        omega
theorem conj_ok {x : D5} (h : x.ok = true) : (conj5 x).ok = true := by
  obtain ⟨a, b, c, d, e'⟩ := x
  obtain ⟨e, h1, h2⟩ := ok_nat h
  dsimp only at h1 h2
  subst h1
  unfold D5.ok conj5
  rw [vi_nat]
  exact vd_conj h2
/-- the adjoint's cell -/
def adjF (r c : Nat) (xs : List D5) (q : Nat) : D5 := conj5 (xs.getD (q % r * c + q / r) z5)
theorem adjF_at {r c i j : Nat} {xs : List D5} (hi : i < r) : adjF r c xs (j * r + i) = conj5 (xs.getD (i * c + j) z5) := by
  unfold adjF
  rw [Nat.mul_comm j r, Nat.mul_add_mod, Nat.mod_eq_of_lt hi, Nat.mul_add_div (by omega), Nat.div_eq_of_lt hi, Nat.add_zero]

set_option maxRecDepth 100000 in
set_option maxHeartbeats 8000000 in
theorem ladj {r c : Nat} {A : Option Addr} {n cp : Nat} {xs : List D5} {w : World} (hA : Rd w A xs) (hn : xs.length = n) (hr : n = r * c) (hb : n ≤ 1024) (hr2 : r ≤ 32) (hc2 : c ≤ 32) (hall : allB xs = true) :
    Calls Try.prog 83 #[mv (r : Int) (c : Int) A n cp] w fun ee w' => ∃ (B : Option Addr) (cq : Nat), ee = .returned (mv (c : Int) (r : Int) B (c * r) cq) ∧ Rd w' B (tab (c * r) (adjF r c xs)) ∧ (∀ a, B = some a → w.heap.size ≤ a.block) ∧ Below w.heap.size w w' := by
  obtain ⟨i0, hi0, hz0, hz1, hz2⟩ := info_parts infoD
  have HA := hid hA
  have HN := hid hn
  have HR := hid hr
  have HALL := hid hall
  have k1 : (c : Int) ≤ 32 := by omega
  have k2 : (r : Int) ≤ 32 := by omega
  clear hA hn hr hall
  obtain ⟨F, hF⟩ : ∃ F, F = adjF r c xs := ⟨_, rfl⟩
  have HF := hid hF
  rw [← hF]
  clear hF
  go_enter Try.func83, Try.ntmps83
  go_wp2_with (fail)
  go_loopg [4] c (fun q s1 wo => ∃ (j : Nat) (v : Value), j + q = c ∧ s1 = .int .i64 (j : Int) ∧ Hid (Bx wo (w.heap.size) 28 #[.int .i64 (r : Int), .int .i64 (c : Int), .slice A n cp]) ∧ Hid (Bx wo (w.heap.size + 1) 28 #[.int .i64 0, .int .i64 0, .slice none 0 0]) ∧ Hid (Bx wo (w.heap.size + 1 + 1) 28 #[.int .i64 (c : Int), .int .i64 (r : Int), v]) ∧ Hid (Own5 wo (w.heap.size + 1 + 1 + 1) 59 v (tab (j * r) F)) ∧ w.heap.size + 1 + 1 + 1 ≤ wo.heap.size ∧ Below w.heap.size w wo)
  case atStart =>
    refine ⟨0, .slice none 0 0, by omega, rfl, (by show Bx _ _ _ _; (repeat' (first | (with_reducible assumption) | (refine Bx.new (by first | (with_reducible rfl) | (simp; done))) | (with_reducible refine Bx.alloc ?_ _) | (with_reducible refine Bx.drew ?_) | (with_reducible refine Bx.drewN ?_ _) | (with_reducible refine Bx.mono ?_ (by assumption)) | (with_reducible refine Bx.badly ?_ (by assumption) (by omega)) | (with_reducible refine Bx.far ?_ (by (try simp only [World.size_alloc, World.size_drew]); omega)) | (with_reducible refine Bx.set ?_ rfl) | (with_reducible refine Bx.grown ?_ (by assumption) (by assumption))))), (by show Bx _ _ _ _; (repeat' (first | (with_reducible assumption) | (refine Bx.new (by first | (with_reducible rfl) | (simp; done))) | (with_reducible refine Bx.alloc ?_ _) | (with_reducible refine Bx.drew ?_) | (with_reducible refine Bx.drewN ?_ _) | (with_reducible refine Bx.mono ?_ (by assumption)) | (with_reducible refine Bx.badly ?_ (by assumption) (by omega)) | (with_reducible refine Bx.far ?_ (by (try simp only [World.size_alloc, World.size_drew]); omega)) | (with_reducible refine Bx.set ?_ rfl) | (with_reducible refine Bx.grown ?_ (by assumption) (by assumption))))), (by show Bx _ _ _ _; (repeat' (first | (with_reducible assumption) | (refine Bx.new (by first | (with_reducible rfl) | (simp; done))) | (with_reducible refine Bx.alloc ?_ _) | (with_reducible refine Bx.drew ?_) | (with_reducible refine Bx.drewN ?_ _) | (with_reducible refine Bx.mono ?_ (by assumption)) | (with_reducible refine Bx.badly ?_ (by assumption) (by omega)) | (with_reducible refine Bx.far ?_ (by (try simp only [World.size_alloc, World.size_drew]); omega)) | (with_reducible refine Bx.set ?_ rfl) | (with_reducible refine Bx.grown ?_ (by assumption) (by assumption))))), ?_, by simp, by (repeat' (first | (with_reducible exact Below.refl _ _) | (with_reducible assumption) | (with_reducible refine Below.alloc ?_ ?_ _) | (with_reducible refine Below.drew ?_) | (with_reducible refine below_drewN ?_ _) | (with_reducible refine Below.setCell ?_ ?_ _) | (with_reducible refine chain ?_ (by assumption) ?_) | omega | (simp; done) | (simp; omega)))⟩
    show Own5 _ _ _ _ _
    rw [Nat.zero_mul]; exact Own5.nil _ _ _
  case round =>
    obtain ⟨j, v, hj, rfl, Xm, Xz, Xo, HO, hsz, hB⟩ := hrel
    obtain ⟨wo, rfl⟩ : ∃ wo, wo = wr := ⟨_, rfl⟩
    have cm0 := Xm.out.c 0 rfl
    have cm1 := Xm.out.c 1 rfl
    have cm2 := Xm.out.c 2 rfl
    have lm := Xm.out.lt
    have cz0 := Xz.out.c 0 rfl
    have cz1 := Xz.out.c 1 rfl
    have cz2 := Xz.out.c 2 rfl
    have lz := Xz.out.lt
    have fz := Xz.out.f
    have co0 := Xo.out.c 0 rfl
    have co1 := Xo.out.c 1 rfl
    have co2 := Xo.out.c 2 rfl
    have lo := Xo.out.lt
    have fo := Xo.out.f
    cases gk with
    | zero =>
      obtain rfl : j = c := by omega
      have HO1 := HO.out
      obtain ⟨B, cq, hv, hRd, hBa⟩ := HO1.form
      rw [tab_len] at hv
      subst hv
      have HBa := hid hBa
      have HRd := hid hRd
      obtain ⟨N9, hN9⟩ : ∃ N9, N9 = j * r := ⟨_, rfl⟩
      rw [← hN9] at co2 HRd
      have HN9 := hid hN9
      clear hRd hBa hN9
      go_wp2_with (fail)
      refine bodyPost_ret (v := mv (j : Int) (r : Int) B N9 cq) (by first | (simp [results, Try.results83, go_sem, *]; done) | (simp (disch := (first | omega | (simp; done) | (simp; omega))) [results, Try.results83, go_sem, *]; done)) rfl ⟨B, cq, by rw [HN9.out], ?_, fun a ha => by have := (HBa.out a ha).1; omega, ?_⟩
      · rw [← HN9.out]
        (repeat' (first | exact HRd.out | refine Rd.far ?_ (fun a ha => by have := (HBa.out a ha).1; show _ ≠ w.heap.size + 1; omega) _))
      · have hBq := hB.size
        (repeat' (first | (with_reducible exact Below.refl _ _) | (with_reducible assumption) | (with_reducible refine Below.alloc ?_ ?_ _) | (with_reducible refine Below.drew ?_) | (with_reducible refine below_drewN ?_ _) | (with_reducible refine Below.setCell ?_ ?_ _) | (with_reducible refine chain ?_ (by assumption) ?_) | omega | (simp; done) | (simp; omega)))
    | succ m =>
      have hltj : j < c := by omega
      have j1 : (j : Int) < (c : Int) := by omega
      go_wp2_with (fail)
      go_loopg [5] r (fun q s1 wi => ∃ (i : Nat) (v : Value), i + q = r ∧ s1 = .int .i64 (i : Int) ∧ Hid (Bx wi (w.heap.size) 28 #[.int .i64 (r : Int), .int .i64 (c : Int), .slice A n cp]) ∧ Hid (Bx wi (w.heap.size + 1) 28 #[.int .i64 0, .int .i64 0, .slice none 0 0]) ∧ Hid (Bx wi (w.heap.size + 1 + 1) 28 #[.int .i64 (c : Int), .int .i64 (r : Int), v]) ∧ Hid (Own5 wi (w.heap.size + 1 + 1 + 1) 59 v (tab (j * r + i) F)) ∧ w.heap.size + 1 + 1 + 1 ≤ wi.heap.size ∧ Below w.heap.size w wi)
      case atStart => exact ⟨0, v, by omega, rfl, Xm, Xz, Xo, HO, hsz, hB⟩
      case round =>
        clear cm0 cm1 cm2 cz0 cz1 cz2 co0 co1 co2 HO Xm Xz Xo lm lz lo fz fo
        obtain ⟨i, v, hi, rfl, Xm, Xz, Xo, HO, hsz, hB⟩ := hrel
        have cm0 := Xm.out.c 0 rfl
        have cm1 := Xm.out.c 1 rfl
        have cm2 := Xm.out.c 2 rfl
        have lm := Xm.out.lt
        have cz0 := Xz.out.c 0 rfl
        have cz1 := Xz.out.c 1 rfl
        have cz2 := Xz.out.c 2 rfl
        have lz := Xz.out.lt
        have fz := Xz.out.f
        have co0 := Xo.out.c 0 rfl
        have co1 := Xo.out.c 1 rfl
        have co2 := Xo.out.c 2 rfl
        have lo := Xo.out.lt
        have fo := Xo.out.f
        cases gk with
        | zero =>
          obtain rfl : i = r := by omega
          go_wp2_with (fail)
          go_roundg m
          case measure => omega
          case rel =>
            refine ⟨j + 1, v, by omega, by go_num, Xm, Xz, Xo, ?_, hsz, hB⟩
            show Own5 _ _ _ _ _
            rw [Nat.add_mul, Nat.one_mul]
            exact HO.out
        | succ m2 =>
          have hlti : i < r := by omega
          have i1 : (i : Int) < (r : Int) := by omega
          obtain ⟨t, ht1, ht2, ht3, ht4⟩ := row_at HR.out hlti
          have hq : t + j < n := by omega
          have hx := get_of (xs := xs) (q := t + j) (by rw [HN.out]; exact hq)
          obtain ⟨x, hxe⟩ : ∃ x, x = xs.getD (t + j) z5 := ⟨_, rfl⟩
          rw [← hxe] at hx
          obtain ⟨T, hT⟩ : ∃ T, T = j * r + i := ⟨_, rfl⟩
          have HX : Hid (F T = conj5 x) := by show F T = _; rw [HF.out, hT, adjF_at hlti, hxe, ht4]
          have hokx := all_get HALL.out hx
          have HT : Hid (T = j * r + i) := hT
          have hTn : T < c * r := by
            rw [hT]
            have h1 : (j + 1) * r ≤ c * r := Nat.mul_le_mul_right r hltj
            rw [Nat.add_mul, Nat.one_mul] at h1
            omega
          have hTn2 : T ≤ 1024 := by
            have : c * r = n := by rw [HR.out, Nat.mul_comm]
            omega
          clear hTn
          have HOT : Hid (Own5 wr (w.heap.size + 1 + 1 + 1) 59 v (tab T F)) := by show Own5 _ _ _ _ _; rw [hT]; exact HO.out
          clear hT hxe
          have HK := hid hokx
          clear hokx
          have hvl := World.ownsRow.lt HOT.out
          have nem : some (w.heap.size) ≠ v.ownBlock := fun e => by have := (hvl _ e.symm).1; omega
          have nez : some (w.heap.size + 1) ≠ v.ownBlock := fun e => by have := (hvl _ e.symm).1; omega
          have neo : some (w.heap.size + 1 + 1) ≠ v.ownBlock := fun e => by have := (hvl _ e.symm).1; omega
          obtain ⟨g, o, rfl, hC⟩ := HA.out _ x hx
          obtain ⟨q0, q1, q2, q3, q4⟩ := hC.at_ (hB.block g hC.lt)
          have hgw := hC.lt
          have neg : some g ≠ v.ownBlock := fun e => by have := (hvl _ e.symm).1; omega
          clear hC hx ht2 ht4
          obtain ⟨s, hs⟩ : ∃ s, s = t + j := ⟨_, rfl⟩
          rw [← hs] at q0 q1 q2 q3 q4 hq
          have e2 : IntKind.i64.wrap (t : Int) = (t : Int) := IntWalk.i64_in _ (by omega)
          have e3 : IntKind.i64.wrap ((t : Int) + (j : Int)) = (s : Int) := by rw [hs, Int.natCast_add]; exact IntWalk.i64_in _ (by omega)
          have e4 : (s : Int) < (n : Int) := by omega
          clear hs
          go_wp2_with (fail)
          have ycm2 : wr.drew.cell? ⟨w.heap.size, 2, none⟩ = some (.slice (some ⟨g, o, none⟩) n cp) := cm2
          have ycm1 : wr.drew.cell? ⟨w.heap.size, 1, none⟩ = some (.int .i64 (c : Int)) := cm1
          have yco2 : wr.drew.cell? ⟨w.heap.size + 1 + 1, 2, none⟩ = some (v) := co2
          have yq0 : wr.drew.cell? ⟨g, o + s * 5, none⟩ = some (.int .i64 x.a) := q0
          have yq1 : wr.drew.cell? ⟨g, o + s * 5 + 1, none⟩ = some (.int .i64 x.b) := q1
          have yq2 : wr.drew.cell? ⟨g, o + s * 5 + 2, none⟩ = some (.int .i64 x.c) := q2
          have yq3 : wr.drew.cell? ⟨g, o + s * 5 + 3, none⟩ = some (.int .i64 x.d) := q3
          have yq4 : wr.drew.cell? ⟨g, o + s * 5 + 4, none⟩ = some (.int .i64 x.e) := q4
          refine wp_region_x (fun w' => w'.cell? ⟨w.heap.size, 2, none⟩ = some (.slice (some ⟨g, o, none⟩) n cp) ∧ w'.cell? ⟨w.heap.size, 1, none⟩ = some (.int .i64 (c : Int)) ∧ w'.cell? ⟨w.heap.size + 1 + 1, 2, none⟩ = some (v) ∧ w'.cell? ⟨g, o + s * 5, none⟩ = some (.int .i64 x.a) ∧ w'.cell? ⟨g, o + s * 5 + 1, none⟩ = some (.int .i64 x.b) ∧ w'.cell? ⟨g, o + s * 5 + 2, none⟩ = some (.int .i64 x.c) ∧ w'.cell? ⟨g, o + s * 5 + 3, none⟩ = some (.int .i64 x.d) ∧ w'.cell? ⟨g, o + s * 5 + 4, none⟩ = some (.int .i64 x.e)) 16 (by kernel_rfl) ⟨ycm2, ycm1, yco2, yq0, yq1, yq2, yq3, yq4⟩ (fun hS0 => ?_)
          refine wpAnyX_take (i := 0) (oi := _) (v := ?_) rfl (by kernel_rfl) (by kernel_rfl) (by kernel_rfl) (by kernel_rfl) (fun _ _ _ h => h) (Or.inl ⟨by rfl, ?_⟩) hS0 ?_
          rotate_left 1
          · (intro w hSw; (try dsimp only at hSw); go_simp; (try with_reducible rfl))
          try simp only [Act.put, List.setIfInBounds_toArray, List.set_cons_zero, List.set_cons_succ]
          refine wpAnyX_take (i := 1) (oi := _) (v := ?_) rfl (by kernel_rfl) (by kernel_rfl) (by kernel_rfl) (by kernel_rfl) (fun _ _ _ h => h) (Or.inl ⟨by rfl, ?_⟩) hS0 ?_
          rotate_left 1
          · (intro w hSw; (try dsimp only at hSw); go_simp; (try with_reducible rfl))
          try simp only [Act.put, List.setIfInBounds_toArray, List.set_cons_zero, List.set_cons_succ]
          refine wpAnyX_take (i := 2) (oi := _) (v := ?_) rfl (by kernel_rfl) (by kernel_rfl) (by kernel_rfl) (by kernel_rfl) (fun _ _ _ h => h) (Or.inl ⟨by rfl, ?_⟩) hS0 ?_
          rotate_left 1
          · (intro w hSw; (try dsimp only at hSw); go_simp; (try with_reducible rfl))
          try simp only [Act.put, List.setIfInBounds_toArray, List.set_cons_zero, List.set_cons_succ]
          refine wpAnyX_take (i := 3) (oi := _) (v := ?_) rfl (by kernel_rfl) (by kernel_rfl) (by kernel_rfl) (by kernel_rfl) (fun _ _ _ h => h) (Or.inl ⟨by rfl, ?_⟩) hS0 ?_
          rotate_left 1
          · (intro w hSw; (try dsimp only at hSw); go_simp; (try with_reducible rfl))
          try simp only [Act.put, List.setIfInBounds_toArray, List.set_cons_zero, List.set_cons_succ]
          refine wpAnyX_take (i := 4) (oi := _) (v := ?_) rfl (by kernel_rfl) (by kernel_rfl) (by kernel_rfl) (by kernel_rfl) (fun _ _ _ h => h) (Or.inl ⟨by rfl, ?_⟩) hS0 ?_
          rotate_left 1
          · (intro w hSw; (try dsimp only at hSw); go_simp; (try with_reducible rfl))
          try simp only [Act.put, List.setIfInBounds_toArray, List.set_cons_zero, List.set_cons_succ]
          refine wpAnyX_take (i := 5) (oi := _) (v := ?_) rfl (by kernel_rfl) (by kernel_rfl) (by kernel_rfl) (by kernel_rfl) (fun _ _ _ h => h) (Or.inl ⟨by rfl, ?_⟩) hS0 ?_
          rotate_left 1
          · (intro w hSw; (try dsimp only at hSw); go_simp; (try with_reducible rfl))
          try simp only [Act.put, List.setIfInBounds_toArray, List.set_cons_zero, List.set_cons_succ]
          refine wpAnyX_take (i := 6) (oi := _) (v := ?_) rfl (by kernel_rfl) (by kernel_rfl) (by kernel_rfl) (by kernel_rfl) (fun _ _ _ h => h) (Or.inl ⟨by rfl, ?_⟩) hS0 ?_
          rotate_left 1
          · (intro w hSw; (try dsimp only at hSw); go_simp; (try with_reducible rfl))
          try simp only [Act.put, List.setIfInBounds_toArray, List.set_cons_zero, List.set_cons_succ]
          refine wpAnyX_take (i := 7) (oi := _) (v := ?_) rfl (by kernel_rfl) (by kernel_rfl) (by kernel_rfl) (by kernel_rfl) (fun _ _ _ h => h) (Or.inl ⟨by rfl, ?_⟩) hS0 ?_
          rotate_left 1
          · (intro w hSw; (try dsimp only at hSw); go_simp; (try with_reducible rfl))
          try simp only [Act.put, List.setIfInBounds_toArray, List.set_cons_zero, List.set_cons_succ]
          refine wpAnyX_take (i := 8) (oi := _) (v := ?_) rfl (by kernel_rfl) (by kernel_rfl) (by kernel_rfl) (by kernel_rfl) (fun _ _ _ h => h) (Or.inl ⟨by rfl, ?_⟩) hS0 ?_
          rotate_left 1
          · (intro w hSw; (try dsimp only at hSw); go_simp; (try with_reducible rfl))
          try simp only [Act.put, List.setIfInBounds_toArray, List.set_cons_zero, List.set_cons_succ]
          refine wpAnyX_take (i := 9) (oi := _) (v := ?_) rfl (by kernel_rfl) (by kernel_rfl) (by kernel_rfl) (by kernel_rfl) (fun _ _ _ h => h) (Or.inl ⟨by rfl, ?_⟩) hS0 ?_
          rotate_left 1
          · (intro w hSw; (try dsimp only at hSw); go_simp; (try with_reducible rfl))
          try simp only [Act.put, List.setIfInBounds_toArray, List.set_cons_zero, List.set_cons_succ]
          refine wpAnyX_take (i := 10) (oi := _) (v := ?_) rfl (by kernel_rfl) (by kernel_rfl) (by kernel_rfl) (by kernel_rfl) (fun _ _ _ h => h) (Or.inl ⟨by rfl, ?_⟩) hS0 ?_
          rotate_left 1
          · (intro w hSw; (try dsimp only at hSw); go_simp; (try with_reducible rfl))
          try simp only [Act.put, List.setIfInBounds_toArray, List.set_cons_zero, List.set_cons_succ]
          refine wpAnyX_take (i := 11) (oi := _) (v := ?_) rfl (by kernel_rfl) (by kernel_rfl) (by kernel_rfl) (by kernel_rfl) (fun _ _ _ h => h) (Or.inl ⟨by rfl, ?_⟩) hS0 ?_
          rotate_left 1
          · (intro w hSw; (try dsimp only at hSw); go_simp; (try with_reducible rfl))
          try simp only [Act.put, List.setIfInBounds_toArray, List.set_cons_zero, List.set_cons_succ]
          refine wpAnyX_one (i := 12) (o := _) rfl (by kernel_rfl) (fun K hK => ?_)
          go_simp
          refine (cjs (x := x) HK.out _).mono ?_
          rintro ee w8 ⟨rfl, hb8⟩
          have hb9 : Below wr.heap.size wr w8 := ⟨hb8.os, hb8.tape, hb8.output, hb8.size, hb8.block⟩
          have hz8 := hb9.size
          refine hK.out _ _ (fun _ => ?_) (fun hS1 => ?_)
          · exact ⟨kc hb8 (hS0.1), kc hb8 (hS0.2.1), kc hb8 (hS0.2.2.1), kc hb8 (hS0.2.2.2.1), kc hb8 (hS0.2.2.2.2.1), kc hb8 (hS0.2.2.2.2.2.1), kc hb8 (hS0.2.2.2.2.2.2.1), kc hb8 (hS0.2.2.2.2.2.2.2)⟩
          clear hK K
          have hS1 := hS1 (by decide)
          try simp only [Act.put, List.setIfInBounds_toArray, List.set_cons_zero, List.set_cons_succ]
          refine wpAnyX_one (i := 13) (o := _) rfl (by kernel_rfl) (fun K hK => ?_)
          go_simp
          refine hK.out _ _ (fun _ => ?_) (fun hS2 => ?_)
          · first | exact ⟨kal (hS1.1), kal (hS1.2.1), kal (hS1.2.2.1), kal (hS1.2.2.2.1), kal (hS1.2.2.2.2.1), kal (hS1.2.2.2.2.2.1), kal (hS1.2.2.2.2.2.2.1), kal (hS1.2.2.2.2.2.2.2)⟩ | exact ⟨kald (hS1.1), kald (hS1.2.1), kald (hS1.2.2.1), kald (hS1.2.2.2.1), kald (hS1.2.2.2.2.1), kald (hS1.2.2.2.2.2.1), kald (hS1.2.2.2.2.2.2.1), kald (hS1.2.2.2.2.2.2.2)⟩
          clear hK K
          have hS2 := hS2 (by decide)
          try simp only [Act.put, List.setIfInBounds_toArray, List.set_cons_zero, List.set_cons_succ]
          refine wpAnyX_one (i := 14) (o := _) rfl (by kernel_rfl) (fun K hK => ?_)
          refine step_append_lies _ (by rfl) _ _ _ (by rfl) (w.heap.size + 1 + 1 + 1) 59 i0 _ 5 40 Try.underlying26 hi0 hz0 hz1 hz2 rfl (by omega) v T (csL (tab T F)) (by rfl) (((World.ownsRow.alloc (by have := HOT.out.mono hb9; unfold Own5 at this; rw [tab_len] at this; exact this) _))) ⟨w8.heap.size, 0, none⟩ 1 1 (conj5 x).cs (by rfl) (by rfl) (World.news_of_block (cs := ((conj5 x)).cs.toArray) (t := 59) (fr := (0, 0)) (heap_alloc_new _ _)) (by simp [D5.cs, Value.oneCell']) (by omega) (append_ok (by omega)).1 (append_ok (by omega)).2 (by simp; omega) (w8.heap.size + 1) (by simp) ?_
          intro gg cap w9 hown9 hgrow9 hat9 hlt9
          refine hK.out _ _ (fun _ => ?_) (fun hS3 => ?_)
          · exact ⟨hgrow9.cell (hS2.1) nem, hgrow9.cell (hS2.2.1) nem, hgrow9.cell (hS2.2.2.1) neo, hgrow9.cell (hS2.2.2.2.1) neg, hgrow9.cell (hS2.2.2.2.2.1) neg, hgrow9.cell (hS2.2.2.2.2.2.1) neg, hgrow9.cell (hS2.2.2.2.2.2.2.1) neg, hgrow9.cell (hS2.2.2.2.2.2.2.2) neg⟩
          clear hK K
          have hS3 := hS3 (by decide)
          try simp only [Act.put, List.setIfInBounds_toArray, List.set_cons_zero, List.set_cons_succ]
          refine wpAnyX_take (i := 15) (oi := _) (v := ?_) rfl (by kernel_rfl) (by kernel_rfl) (by kernel_rfl) (by kernel_rfl) (fun _ _ _ h => h) (Or.inl ⟨by rfl, ?_⟩) hS3 ?_
          rotate_left 1
          · (intro w hSw; (try dsimp only at hSw); go_simp; (try with_reducible rfl))
          try simp only [Act.put, List.setIfInBounds_toArray, List.set_cons_zero, List.set_cons_succ]
          refine wpAnyX_one (i := 16) (o := _) rfl (by kernel_rfl) (fun K hK => ?_)
          have Yo := (Bx.alloc (Xo.out.mono hb9) _).grown hgrow9 neo
          have yo2 := Yo.c 2 rfl
          have yof := Yo.f 2
          go_simp
          refine hK.out _ _ (fun h => absurd rfl h) (fun _ => ?_)
          clear hK K
          try simp only [Act.put, List.setIfInBounds_toArray, List.set_cons_zero, List.set_cons_succ]
          refine wpAnyX_done (by kernel_rfl) ?_ _
          go_wp2_with (fail)
          go_roundg m2
          case measure => omega
          case rel =>
            have hz9 := hgrow9.size
            simp only [World.size_alloc] at hz9
            have Ym := (Bx.alloc (Xm.out.mono hb9) _).grown hgrow9 nem
            have Yz := (Bx.alloc (Xz.out.mono hb9) _).grown hgrow9 nez
            refine ⟨i + 1, .slice (some ⟨gg, 0, none⟩) (T + 1) cap, by omega, by go_num, Ym.far (by omega), Yz.far (by omega), Yo.set rfl, ?_, by (try simp only [World.size_setCell]); omega, ?_⟩
            · show Own5 _ _ _ _ _
              rw [← Nat.add_assoc, ← HT.out, tab_succ, HX.out]
              exact (Own5.snoc (tab_len _ _) hown9).far (by show w.heap.size + 1 + 1 < _; omega) _
            · refine Below.setCell ?_ (by show w.heap.size ≤ w.heap.size + 1 + 1; omega) _
              refine Below.grown ((chain hB hb9 hB.size).alloc (by omega) _) hgrow9 (by simp only [World.size_alloc]; omega) (fun q e => by have := (hvl _ e).1; omega)

end Go.Proofs.Ytnjckeadcbfogaa
