/- Adj, AdjI -/
import Derived.Test.YtncgccpkbneagaaZcol
import Derived.Test.YtncgccpkbneagaaZdv
namespace Go.Proofs.Ytncgccpkbneagaa
open Go.RowKit RM
set_option linter.unusedVariables false
set_option linter.unusedSimpArgs false
attribute [local irreducible] World.setCell

/-- the conjugate -/
def conj5 (x : D5) : D5 := ⟨x.a, -x.d, -x.c, -x.b, x.e⟩
theorem cjs {x : D5} (h : x.ok = true) (w : World) : Calls Try.prog 115 #[x.v] w fun ee w' => ee = .returned (conj5 x).v ∧ Below w.heap.size w w' := by
  obtain ⟨a, b, c, d, e'⟩ := x
  obtain ⟨e, h1, h2⟩ := ok_nat h
  exact l2cj a b c d e' w (vd_iff.1 h2).1
theorem cji {x : D5} (h : x.ok = true) (w : World) : Calls Try.prog 77 #[x.v] w fun ee w' => ee = .returned (.tuple #[(conj5 x).v, .bool true]) ∧ Below w.heap.size w w' := by
  obtain ⟨a, b, c, d, e'⟩ := x
  obtain ⟨e, h1, h2⟩ := ok_nat h
  dsimp only at h1 h2
  subst h1
  exact cj_i_t a b c d e w h2
theorem vd_conj {a b c d : Int} {e : Nat} (h : vd a b c d e = true) : vd a (-d) (-c) (-b) e = true := by
  obtain ⟨h1, h2, h3⟩ := vd_iff.1 h
  refine vd_iff.2 ⟨?_, h2, ?_⟩
  · rw [vr_iff] at *; omega
  · rcases h3 with h3 | h3
    · exact Or.inl h3
    · refine Or.inr ?_
      cases hq : ev2 a (-d) (-c) (-b)
      · rfl
      · rw [← h3]
        simp only [ev2, Bool.and_eq_true, tm2''] at hq
        symm
        simp only [ev2, Bool.and_eq_true, tm2'']
        omega
theorem conj_ok {x : D5} (h : x.ok = true) : (conj5 x).ok = true := by
  obtain ⟨a, b, c, d, e'⟩ := x
  obtain ⟨e, h1, h2⟩ := ok_nat h
  dsimp only at h1 h2
  subst h1
  unfold D5.ok conj5
  rw [vi_nat]
  exact vd_conj h2
/-- the adjoint's cell -/
def adjF (r c : Nat) (xs : List D5) (q : Nat) : D5 := conj5 (xs.getD (q % r * c + q / r) z5)
theorem adjF_at {r c i j : Nat} {xs : List D5} (hi : i < r) : adjF r c xs (j * r + i) = conj5 (xs.getD (i * c + j) z5) := by
  unfold adjF
  rw [Nat.mul_comm j r, Nat.mul_add_mod, Nat.mod_eq_of_lt hi, Nat.mul_add_div (by omega), Nat.div_eq_of_lt hi, Nat.add_zero]

set_option maxRecDepth 100000 in
set_option maxHeartbeats 8000000 in
theorem ladj {r c : Nat} {A : Option Addr} {n cp : Nat} {xs : List D5} {w : World} (hA : Rd w A xs) (hn : xs.length = n) (hr : n = r * c) (hb : n ≤ 1024) (hr2 : r ≤ 32) (hc2 : c ≤ 32) (hall : allB xs = true) :
    Calls Try.prog 90 #[mv (r : Int) (c : Int) A n cp] w fun ee w' => ∃ (B : Option Addr) (cq : Nat), ee = .returned (mv (c : Int) (r : Int) B (c * r) cq) ∧ Rd w' B (tab (c * r) (adjF r c xs)) ∧ (∀ a, B = some a → w.heap.size ≤ a.block) ∧ Below w.heap.size w w' := by
  obtain ⟨i0, hi0, hz0, hz1, hz2⟩ := info_parts infoD
  have HA := hid hA
  have HN := hid hn
  have HR := hid hr
  have HALL := hid hall
  have k1 : (c : Int) ≤ 32 := by omega
  have k2 : (r : Int) ≤ 32 := by omega
  clear hA hn hr hall
  obtain ⟨F, hF⟩ : ∃ F, F = adjF r c xs := ⟨_, rfl⟩
  have HF := hid hF
  rw [← hF]
  clear hF
  go_enter Try.func90, Try.ntmps90
  go_wp2_with (fail)
  go_loopg [4] c (fun q s1 wo => ∃ (j : Nat) (v : Value), j + q = c ∧ s1 = .int .i64 (j : Int) ∧ Hid (Bx wo (w.heap.size) 26 #[.int .i64 (r : Int), .int .i64 (c : Int), .slice A n cp]) ∧ Hid (Bx wo (w.heap.size + 1) 26 #[.int .i64 0, .int .i64 0, .slice none 0 0]) ∧ Hid (Bx wo (w.heap.size + 1 + 1) 26 #[.int .i64 (c : Int), .int .i64 (r : Int), v]) ∧ Hid (Own5 wo (w.heap.size + 1 + 1 + 1) 37 v (tab (j * r) F)) ∧ w.heap.size + 1 + 1 + 1 ≤ wo.heap.size ∧ Below w.heap.size w wo)
  case atStart =>
    refine ⟨0, .slice none 0 0, by omega, rfl, (by show Bx _ _ _ _; (repeat' (first | (with_reducible assumption) | (refine Bx.new (by first | (with_reducible rfl) | (simp; done))) | (with_reducible refine Bx.alloc ?_ _) | (with_reducible refine Bx.drew ?_) | (with_reducible refine Bx.drewN ?_ _) | (with_reducible refine Bx.mono ?_ (by assumption)) | (with_reducible refine Bx.badly ?_ (by assumption) (by omega)) | (with_reducible refine Bx.far ?_ (by (try simp only [World.size_alloc, World.size_drew]); omega)) | (with_reducible refine Bx.set ?_ rfl) | (with_reducible refine Bx.grown ?_ (by assumption) (by assumption))))), (by show Bx _ _ _ _; (repeat' (first | (with_reducible assumption) | (refine Bx.new (by first | (with_reducible rfl) | (simp; done))) | (with_reducible refine Bx.alloc ?_ _) | (with_reducible refine Bx.drew ?_) | (with_reducible refine Bx.drewN ?_ _) | (with_reducible refine Bx.mono ?_ (by assumption)) | (with_reducible refine Bx.badly ?_ (by assumption) (by omega)) | (with_reducible refine Bx.far ?_ (by (try simp only [World.size_alloc, World.size_drew]); omega)) | (with_reducible refine Bx.set ?_ rfl) | (with_reducible refine Bx.grown ?_ (by assumption) (by assumption))))), (by show Bx _ _ _ _; (repeat' (first | (with_reducible assumption) | (refine Bx.new (by first | (with_reducible rfl) | (simp; done))) | (with_reducible refine Bx.alloc ?_ _) | (with_reducible refine Bx.drew ?_) | (with_reducible refine Bx.drewN ?_ _) | (with_reducible refine Bx.mono ?_ (by assumption)) | (with_reducible refine Bx.badly ?_ (by assumption) (by omega)) | (with_reducible refine Bx.far ?_ (by (try simp only [World.size_alloc, World.size_drew]); omega)) | (with_reducible refine Bx.set ?_ rfl) | (with_reducible refine Bx.grown ?_ (by assumption) (by assumption))))), ?_, by simp, by (repeat' (first | (with_reducible exact Below.refl _ _) | (with_reducible assumption) | (with_reducible refine Below.alloc ?_ ?_ _) | (with_reducible refine Below.drew ?_) | (with_reducible refine below_drewN ?_ _) | (with_reducible refine Below.setCell ?_ ?_ _) | (with_reducible refine chain ?_ (by assumption) ?_) | omega | (simp; done) | (simp; omega)))⟩
    show Own5 _ _ _ _ _
    rw [Nat.zero_mul]; exact Own5.nil _ _ _
  case round =>
    obtain ⟨j, v, hj, rfl, Xm, Xz, Xo, HO, hsz, hB⟩ := hrel
    obtain ⟨wo, rfl⟩ : ∃ wo, wo = wr := ⟨_, rfl⟩
    have cm0 := Xm.out.c 0 rfl
    have cm1 := Xm.out.c 1 rfl
    have cm2 := Xm.out.c 2 rfl
    have lm := Xm.out.lt
    have cz0 := Xz.out.c 0 rfl
    have cz1 := Xz.out.c 1 rfl
    have cz2 := Xz.out.c 2 rfl
    have lz := Xz.out.lt
    have fz := Xz.out.f
    have co0 := Xo.out.c 0 rfl
    have co1 := Xo.out.c 1 rfl
    have co2 := Xo.out.c 2 rfl
    have lo := Xo.out.lt
    have fo := Xo.out.f
    cases gk with
    | zero =>
      obtain rfl : j = c := by omega
      have HO1 := HO.out
      obtain ⟨B, cq, hv, hRd, hBa⟩ := HO1.form
      rw [tab_len] at hv
      subst hv
      have HBa := hid hBa
      have HRd := hid hRd
      obtain ⟨N9, hN9⟩ : ∃ N9, N9 = j * r := ⟨_, rfl⟩
      rw [← hN9] at co2 HRd
      have HN9 := hid hN9
      clear hRd hBa hN9
      go_wp2_with (fail)
      refine bodyPost_ret (v := mv (j : Int) (r : Int) B N9 cq) (by first | (simp [results, Try.results90, go_sem, *]; done) | (simp (disch := (first | omega | (simp; done) | (simp; omega))) [results, Try.results90, go_sem, *]; done)) rfl ⟨B, cq, by rw [HN9.out], ?_, fun a ha => by have := (HBa.out a ha).1; omega, ?_⟩
      · rw [← HN9.out]
        (repeat' (first | exact HRd.out | refine Rd.far ?_ (fun a ha => by have := (HBa.out a ha).1; show _ ≠ w.heap.size + 1; omega) _))
      · have hBq := hB.size
        (repeat' (first | (with_reducible exact Below.refl _ _) | (with_reducible assumption) | (with_reducible refine Below.alloc ?_ ?_ _) | (with_reducible refine Below.drew ?_) | (with_reducible refine below_drewN ?_ _) | (with_reducible refine Below.setCell ?_ ?_ _) | (with_reducible refine chain ?_ (by assumption) ?_) | omega | (simp; done) | (simp; omega)))
    | succ m =>
      have hltj : j < c := by omega
      have j1 : (j : Int) < (c : Int) := by omega
      go_wp2_with (fail)
      go_loopg [5] r (fun q s1 wi => ∃ (i : Nat) (v : Value), i + q = r ∧ s1 = .int .i64 (i : Int) ∧ Hid (Bx wi (w.heap.size) 26 #[.int .i64 (r : Int), .int .i64 (c : Int), .slice A n cp]) ∧ Hid (Bx wi (w.heap.size + 1) 26 #[.int .i64 0, .int .i64 0, .slice none 0 0]) ∧ Hid (Bx wi (w.heap.size + 1 + 1) 26 #[.int .i64 (c : Int), .int .i64 (r : Int), v]) ∧ Hid (Own5 wi (w.heap.size + 1 + 1 + 1) 37 v (tab (j * r + i) F)) ∧ w.heap.size + 1 + 1 + 1 ≤ wi.heap.size ∧ Below w.heap.size w wi)
      case atStart => exact ⟨0, v, by omega, rfl, Xm, Xz, Xo, HO, hsz, hB⟩
      case round =>
        clear cm0 cm1 cm2 cz0 cz1 cz2 co0 co1 co2 HO Xm Xz Xo lm lz lo fz fo
        obtain ⟨i, v, hi, rfl, Xm, Xz, Xo, HO, hsz, hB⟩ := hrel
        have cm0 := Xm.out.c 0 rfl
        have cm1 := Xm.out.c 1 rfl
        have cm2 := Xm.out.c 2 rfl
        have lm := Xm.out.lt
        have cz0 := Xz.out.c 0 rfl
        have cz1 := Xz.out.c 1 rfl
        have cz2 := Xz.out.c 2 rfl
        have lz := Xz.out.lt
        have fz := Xz.out.f
        have co0 := Xo.out.c 0 rfl
        have co1 := Xo.out.c 1 rfl
        have co2 := Xo.out.c 2 rfl
        have lo := Xo.out.lt
        have fo := Xo.out.f
        cases gk with
        | zero =>
          obtain rfl : i = r := by omega
          go_wp2_with (fail)
          go_roundg m
          case measure => omega
          case rel =>
            refine ⟨j + 1, v, by omega, by go_num, Xm, Xz, Xo, ?_, hsz, hB⟩
            show Own5 _ _ _ _ _
            rw [Nat.add_mul, Nat.one_mul]
            exact HO.out
        | succ m2 =>
          have hlti : i < r := by omega
          have i1 : (i : Int) < (r : Int) := by omega
          obtain ⟨t, ht1, ht2, ht3, ht4⟩ := row_at HR.out hlti
          have hq : t + j < n := by omega
          have hx := get_of (xs := xs) (q := t + j) (by rw [HN.out]; exact hq)
          obtain ⟨x, hxe⟩ : ∃ x, x = xs.getD (t + j) z5 := ⟨_, rfl⟩
          rw [← hxe] at hx
          obtain ⟨T, hT⟩ : ∃ T, T = j * r + i := ⟨_, rfl⟩
          have HX : Hid (F T = conj5 x) := by show F T = _; rw [HF.out, hT, adjF_at hlti, hxe, ht4]
          have hokx := all_get HALL.out hx
          have HT : Hid (T = j * r + i) := hT
          have hTn : T < c * r := by
            rw [hT]
            have h1 : (j + 1) * r ≤ c * r := Nat.mul_le_mul_right r hltj
            rw [Nat.add_mul, Nat.one_mul] at h1
            omega
          have hTn2 : T ≤ 1024 := by
            have : c * r = n := by rw [HR.out, Nat.mul_comm]
            omega
          clear hTn
          have HOT : Hid (Own5 wr (w.heap.size + 1 + 1 + 1) 37 v (tab T F)) := by show Own5 _ _ _ _ _; rw [hT]; exact HO.out
          clear hT hxe
          have HK := hid hokx
          clear hokx
          have hvl := World.ownsRow.lt HOT.out
          have nem : some (w.heap.size) ≠ v.ownBlock := fun e => by have := (hvl _ e.symm).1; omega
          have nez : some (w.heap.size + 1) ≠ v.ownBlock := fun e => by have := (hvl _ e.symm).1; omega
          have neo : some (w.heap.size + 1 + 1) ≠ v.ownBlock := fun e => by have := (hvl _ e.symm).1; omega
          obtain ⟨g, o, rfl, hC⟩ := HA.out _ x hx
          obtain ⟨q0, q1, q2, q3, q4⟩ := hC.at_ (hB.block g hC.lt)
          have hgw := hC.lt
          have neg : some g ≠ v.ownBlock := fun e => by have := (hvl _ e.symm).1; omega
          clear hC hx ht2 ht4
          obtain ⟨s, hs⟩ : ∃ s, s = t + j := ⟨_, rfl⟩
          rw [← hs] at q0 q1 q2 q3 q4 hq
          have e2 : IntKind.i64.wrap (t : Int) = (t : Int) := IntWalk.i64_in _ (by omega)
          have e3 : IntKind.i64.wrap ((t : Int) + (j : Int)) = (s : Int) := by rw [hs, Int.natCast_add]; exact IntWalk.i64_in _ (by omega)
          have e4 : (s : Int) < (n : Int) := by omega
          clear hs
          go_wp2_with (fail)
          have ycm2 : wr.drew.cell? ⟨w.heap.size, 2, none⟩ = some (.slice (some ⟨g, o, none⟩) n cp) := cm2
          have ycm1 : wr.drew.cell? ⟨w.heap.size, 1, none⟩ = some (.int .i64 (c : Int)) := cm1
          have yco2 : wr.drew.cell? ⟨w.heap.size + 1 + 1, 2, none⟩ = some (v) := co2
          have yq0 : wr.drew.cell? ⟨g, o + s * 5, none⟩ = some (.int .i64 x.a) := q0
          have yq1 : wr.drew.cell? ⟨g, o + s * 5 + 1, none⟩ = some (.int .i64 x.b) := q1
          have yq2 : wr.drew.cell? ⟨g, o + s * 5 + 2, none⟩ = some (.int .i64 x.c) := q2
          have yq3 : wr.drew.cell? ⟨g, o + s * 5 + 3, none⟩ = some (.int .i64 x.d) := q3
          have yq4 : wr.drew.cell? ⟨g, o + s * 5 + 4, none⟩ = some (.int .i64 x.e) := q4
          refine wp_region_x (fun w' => w'.cell? ⟨w.heap.size, 2, none⟩ = some (.slice (some ⟨g, o, none⟩) n cp) ∧ w'.cell? ⟨w.heap.size, 1, none⟩ = some (.int .i64 (c : Int)) ∧ w'.cell? ⟨w.heap.size + 1 + 1, 2, none⟩ = some (v) ∧ w'.cell? ⟨g, o + s * 5, none⟩ = some (.int .i64 x.a) ∧ w'.cell? ⟨g, o + s * 5 + 1, none⟩ = some (.int .i64 x.b) ∧ w'.cell? ⟨g, o + s * 5 + 2, none⟩ = some (.int .i64 x.c) ∧ w'.cell? ⟨g, o + s * 5 + 3, none⟩ = some (.int .i64 x.d) ∧ w'.cell? ⟨g, o + s * 5 + 4, none⟩ = some (.int .i64 x.e)) 16 (by kernel_rfl) ⟨ycm2, ycm1, yco2, yq0, yq1, yq2, yq3, yq4⟩ (fun hS0 => ?_)
          refine wpAnyX_take (i := 0) (oi := _) (v := ?_) rfl (by kernel_rfl) (by kernel_rfl) (by kernel_rfl) (by kernel_rfl) (fun _ _ _ h => h) (Or.inl ⟨by rfl, ?_⟩) hS0 ?_
          rotate_left 1
          · (intro w hSw; (try dsimp only at hSw); go_simp; (try with_reducible rfl))
          try simp only [Act.put, List.setIfInBounds_toArray, List.set_cons_zero, List.set_cons_succ]
          refine wpAnyX_take (i := 1) (oi := _) (v := ?_) rfl (by kernel_rfl) (by kernel_rfl) (by kernel_rfl) (by kernel_rfl) (fun _ _ _ h => h) (Or.inl ⟨by rfl, ?_⟩) hS0 ?_
          rotate_left 1
          · (intro w hSw; (try dsimp only at hSw); go_simp; (try with_reducible rfl))
          try simp only [Act.put, List.setIfInBounds_toArray, List.set_cons_zero, List.set_cons_succ]
          refine wpAnyX_take (i := 2) (oi := _) (v := ?_) rfl (by kernel_rfl) (by kernel_rfl) (by kernel_rfl) (by kernel_rfl) (fun _ _ _ h => h) (Or.inl ⟨by rfl, ?_⟩) hS0 ?_
          rotate_left 1
          · (intro w hSw; (try dsimp only at hSw); go_simp; (try with_reducible rfl))
          try simp only [Act.put, List.setIfInBounds_toArray, List.set_cons_zero, List.set_cons_succ]
          refine wpAnyX_take (i := 3) (oi := _) (v := ?_) rfl (by kernel_rfl) (by kernel_rfl) (by kernel_rfl) (by kernel_rfl) (fun _ _ _ h => h) (Or.inl ⟨by rfl, ?_⟩) hS0 ?_
          rotate_left 1
          · (intro w hSw; (try dsimp only at hSw); go_simp; (try with_reducible rfl))
          try simp only [Act.put, List.setIfInBounds_toArray, List.set_cons_zero, List.set_cons_succ]
          refine wpAnyX_take (i := 4) (oi := _) (v := ?_) rfl (by kernel_rfl) (by kernel_rfl) (by kernel_rfl) (by kernel_rfl) (fun _ _ _ h => h) (Or.inl ⟨by rfl, ?_⟩) hS0 ?_
          rotate_left 1
          · (intro w hSw; (try dsimp only at hSw); go_simp; (try with_reducible rfl))
          try simp only [Act.put, List.setIfInBounds_toArray, List.set_cons_zero, List.set_cons_succ]
          refine wpAnyX_take (i := 5) (oi := _) (v := ?_) rfl (by kernel_rfl) (by kernel_rfl) (by kernel_rfl) (by kernel_rfl) (fun _ _ _ h => h) (Or.inl ⟨by rfl, ?_⟩) hS0 ?_
          rotate_left 1
          · (intro w hSw; (try dsimp only at hSw); go_simp; (try with_reducible rfl))
          try simp only [Act.put, List.setIfInBounds_toArray, List.set_cons_zero, List.set_cons_succ]
          refine wpAnyX_take (i := 6) (oi := _) (v := ?_) rfl (by kernel_rfl) (by kernel_rfl) (by kernel_rfl) (by kernel_rfl) (fun _ _ _ h => h) (Or.inl ⟨by rfl, ?_⟩) hS0 ?_
          rotate_left 1
          · (intro w hSw; (try dsimp only at hSw); go_simp; (try with_reducible rfl))
          try simp only [Act.put, List.setIfInBounds_toArray, List.set_cons_zero, List.set_cons_succ]
          refine wpAnyX_take (i := 7) (oi := _) (v := ?_) rfl (by kernel_rfl) (by kernel_rfl) (by kernel_rfl) (by kernel_rfl) (fun _ _ _ h => h) (Or.inl ⟨by rfl, ?_⟩) hS0 ?_
          rotate_left 1
          · (intro w hSw; (try dsimp only at hSw); go_simp; (try with_reducible rfl))
          try simp only [Act.put, List.setIfInBounds_toArray, List.set_cons_zero, List.set_cons_succ]
          refine wpAnyX_take (i := 8) (oi := _) (v := ?_) rfl (by kernel_rfl) (by kernel_rfl) (by kernel_rfl) (by kernel_rfl) (fun _ _ _ h => h) (Or.inl ⟨by rfl, ?_⟩) hS0 ?_
          rotate_left 1
          · (intro w hSw; (try dsimp only at hSw); go_simp; (try with_reducible rfl))
          try simp only [Act.put, List.setIfInBounds_toArray, List.set_cons_zero, List.set_cons_succ]
          refine wpAnyX_take (i := 9) (oi := _) (v := ?_) rfl (by kernel_rfl) (by kernel_rfl) (by kernel_rfl) (by kernel_rfl) (fun _ _ _ h => h) (Or.inl ⟨by rfl, ?_⟩) hS0 ?_
          rotate_left 1
          · (intro w hSw; (try dsimp only at hSw); go_simp; (try with_reducible rfl))
          try simp only [Act.put, List.setIfInBounds_toArray, List.set_cons_zero, List.set_cons_succ]
          refine wpAnyX_take (i := 10) (oi := _) (v := ?_) rfl (by kernel_rfl) (by kernel_rfl) (by kernel_rfl) (by kernel_rfl) (fun _ _ _ h => h) (Or.inl ⟨by rfl, ?_⟩) hS0 ?_
          rotate_left 1
          · (intro w hSw; (try dsimp only at hSw); go_simp; (try with_reducible rfl))
          try simp only [Act.put, List.setIfInBounds_toArray, List.set_cons_zero, List.set_cons_succ]
          refine wpAnyX_take (i := 11) (oi := _) (v := ?_) rfl (by kernel_rfl) (by kernel_rfl) (by kernel_rfl) (by kernel_rfl) (fun _ _ _ h => h) (Or.inl ⟨by rfl, ?_⟩) hS0 ?_
          rotate_left 1
          · (intro w hSw; (try dsimp only at hSw); go_simp; (try with_reducible rfl))
          try simp only [Act.put, List.setIfInBounds_toArray, List.set_cons_zero, List.set_cons_succ]
          refine wpAnyX_one (i := 12) (o := _) rfl (by kernel_rfl) (fun K hK => ?_)
          go_simp
          refine (cjs (x := x) HK.out _).mono ?_
          rintro ee w8 ⟨rfl, hb8⟩
          have hb9 : Below wr.heap.size wr w8 := ⟨hb8.os, hb8.tape, hb8.output, hb8.size, hb8.block⟩
          have hz8 := hb9.size
          refine hK.out _ _ (fun _ => ?_) (fun hS1 => ?_)
          · exact ⟨kc hb8 (hS0.1), kc hb8 (hS0.2.1), kc hb8 (hS0.2.2.1), kc hb8 (hS0.2.2.2.1), kc hb8 (hS0.2.2.2.2.1), kc hb8 (hS0.2.2.2.2.2.1), kc hb8 (hS0.2.2.2.2.2.2.1), kc hb8 (hS0.2.2.2.2.2.2.2)⟩
          clear hK K
          have hS1 := hS1 (by decide)
          try simp only [Act.put, List.setIfInBounds_toArray, List.set_cons_zero, List.set_cons_succ]
          refine wpAnyX_one (i := 13) (o := _) rfl (by kernel_rfl) (fun K hK => ?_)
          go_simp
          refine hK.out _ _ (fun _ => ?_) (fun hS2 => ?_)
          · first | exact ⟨kal (hS1.1), kal (hS1.2.1), kal (hS1.2.2.1), kal (hS1.2.2.2.1), kal (hS1.2.2.2.2.1), kal (hS1.2.2.2.2.2.1), kal (hS1.2.2.2.2.2.2.1), kal (hS1.2.2.2.2.2.2.2)⟩ | exact ⟨kald (hS1.1), kald (hS1.2.1), kald (hS1.2.2.1), kald (hS1.2.2.2.1), kald (hS1.2.2.2.2.1), kald (hS1.2.2.2.2.2.1), kald (hS1.2.2.2.2.2.2.1), kald (hS1.2.2.2.2.2.2.2)⟩
          clear hK K
          have hS2 := hS2 (by decide)
          try simp only [Act.put, List.setIfInBounds_toArray, List.set_cons_zero, List.set_cons_succ]
          refine wpAnyX_one (i := 14) (o := _) rfl (by kernel_rfl) (fun K hK => ?_)
          refine step_append_lies _ (by rfl) _ _ _ (by rfl) (w.heap.size + 1 + 1 + 1) 37 i0 _ 5 40 Try.underlying24 hi0 hz0 hz1 hz2 rfl (by omega) v T (csL (tab T F)) (by rfl) (((World.ownsRow.alloc (by have := HOT.out.mono hb9; unfold Own5 at this; rw [tab_len] at this; exact this) _))) ⟨w8.heap.size, 0, none⟩ 1 1 (conj5 x).cs (by rfl) (by rfl) (World.news_of_block (cs := ((conj5 x)).cs.toArray) (t := 37) (fr := (0, 0)) (heap_alloc_new _ _)) (by simp [D5.cs, Value.oneCell']) (by omega) (append_ok (by omega)).1 (append_ok (by omega)).2 (by simp; omega) (w8.heap.size + 1) (by simp) ?_
          intro gg cap w9 hown9 hgrow9 hat9 hlt9
          refine hK.out _ _ (fun _ => ?_) (fun hS3 => ?_)
          · exact ⟨hgrow9.cell (hS2.1) nem, hgrow9.cell (hS2.2.1) nem, hgrow9.cell (hS2.2.2.1) neo, hgrow9.cell (hS2.2.2.2.1) neg, hgrow9.cell (hS2.2.2.2.2.1) neg, hgrow9.cell (hS2.2.2.2.2.2.1) neg, hgrow9.cell (hS2.2.2.2.2.2.2.1) neg, hgrow9.cell (hS2.2.2.2.2.2.2.2) neg⟩
          clear hK K
          have hS3 := hS3 (by decide)
          try simp only [Act.put, List.setIfInBounds_toArray, List.set_cons_zero, List.set_cons_succ]
          refine wpAnyX_take (i := 15) (oi := _) (v := ?_) rfl (by kernel_rfl) (by kernel_rfl) (by kernel_rfl) (by kernel_rfl) (fun _ _ _ h => h) (Or.inl ⟨by rfl, ?_⟩) hS3 ?_
          rotate_left 1
          · (intro w hSw; (try dsimp only at hSw); go_simp; (try with_reducible rfl))
          try simp only [Act.put, List.setIfInBounds_toArray, List.set_cons_zero, List.set_cons_succ]
          refine wpAnyX_one (i := 16) (o := _) rfl (by kernel_rfl) (fun K hK => ?_)
          have Yo := (Bx.alloc (Xo.out.mono hb9) _).grown hgrow9 neo
          have yo2 := Yo.c 2 rfl
          have yof := Yo.f 2
          go_simp
          refine hK.out _ _ (fun h => absurd rfl h) (fun _ => ?_)
          clear hK K
          try simp only [Act.put, List.setIfInBounds_toArray, List.set_cons_zero, List.set_cons_succ]
          refine wpAnyX_done (by kernel_rfl) ?_ _
          go_wp2_with (fail)
          go_roundg m2
          case measure => omega
          case rel =>
            have hz9 := hgrow9.size
            simp only [World.size_alloc] at hz9
            have Ym := (Bx.alloc (Xm.out.mono hb9) _).grown hgrow9 nem
            have Yz := (Bx.alloc (Xz.out.mono hb9) _).grown hgrow9 nez
            refine ⟨i + 1, .slice (some ⟨gg, 0, none⟩) (T + 1) cap, by omega, by go_num, Ym.far (by omega), Yz.far (by omega), Yo.set rfl, ?_, by (try simp only [World.size_setCell]); omega, ?_⟩
            · show Own5 _ _ _ _ _
              rw [← Nat.add_assoc, ← HT.out, tab_succ, HX.out]
              exact (Own5.snoc (tab_len _ _) hown9).far (by show w.heap.size + 1 + 1 < _; omega) _
            · refine Below.setCell ?_ (by show w.heap.size ≤ w.heap.size + 1 + 1; omega) _
              refine Below.grown ((chain hB hb9 hB.size).alloc (by omega) _) hgrow9 (by simp only [World.size_alloc]; omega) (fun q e => by have := (hvl _ e).1; omega)

end Go.Proofs.Ytncgccpkbneagaa
namespace Go.Proofs.Ytncgccpkbneagaa
open Go.RowKit RM
set_option linter.unusedVariables false
set_option linter.unusedSimpArgs false
attribute [local irreducible] World.setCell

set_option maxRecDepth 100000 in
set_option maxHeartbeats 4000000 in
theorem adj_i_f {r c : Int} {g0 n cp : Nat} {xs : List D5} {w : World} (hA : Rd w (some ⟨g0, 0, none⟩) xs) (hn : xs.length = n) (hok : okM r c n xs = false) :
    Calls Try.prog 23 #[mv r c (some ⟨g0, 0, none⟩) n cp] w fun ee w' => ee = .returned (mt 0 0 none 0 0 false) ∧ Below w.heap.size w w' := by
  have HA := hid hA
  have HN := hid hn
  have HO := hid hok
  clear hA hn hok
  go_enter Try.func23, Try.ntmps23
  go_wp2_with (fail)
  refine (vm_i_f (xs := xs) HO.out ?_ HN.out).mono ?_
  · exact HA.out.mono (by (repeat' (first | (with_reducible exact Below.refl _ _) | (with_reducible assumption) | (with_reducible refine Below.alloc ?_ ?_ _) | (with_reducible refine Below.drew ?_) | (with_reducible refine below_drewN ?_ _) | (with_reducible refine Below.setCell ?_ ?_ _) | (with_reducible refine chain ?_ (by assumption) ?_) | omega | (simp; done) | (simp; omega))))
  rintro ee w1 ⟨rfl, hb1⟩
  obtain ⟨hc1, hf1, _⟩ := bcell hb1; have hz1 := hb1.size; (try simp at hz1); (try have hx10 : w.heap.size < w1.heap.size := (by omega)); (try have hx11 : w.heap.size + 1 < w1.heap.size := (by omega)); (try have hx12 : w.heap.size + 1 + 1 < w1.heap.size := (by omega)); (try have hx13 : w.heap.size + 1 + 1 + 1 < w1.heap.size := (by omega))
  go_wp2_with (fail)
  refine bodyPost_ret (v := mt 0 0 none 0 0 false) (by first | (simp [results, Try.results23, go_sem, *]; done) | (simp (disch := (first | omega | (simp; done) | (simp; omega))) [results, Try.results23, go_sem, *]; done) | (simp only [results, Try.results23]; go_simp; done)) rfl ⟨rfl, ?_⟩
  (repeat' (first | (with_reducible exact Below.refl _ _) | (with_reducible assumption) | (with_reducible refine Below.alloc ?_ ?_ _) | (with_reducible refine Below.drew ?_) | (with_reducible refine below_drewN ?_ _) | (with_reducible refine Below.setCell ?_ ?_ _) | (with_reducible refine chain ?_ (by assumption) ?_) | omega | (simp; done) | (simp; omega)))

/-- what has been filled in: the columns below i, and of column i what lies below j -/
def adjP (r : Nat) (i j : Nat) (F : Nat → D5) (q : Nat) : D5 := if q % r < i ∨ (q % r = i ∧ q / r < j) then F q else z5
theorem adjP_0 {r n : Nat} {F : Nat → D5} : List.replicate n z5 = tab n (adjP r 0 0 F) := by
  rw [tab_repl]
  exact tab_congr (fun q _ => by unfold adjP; generalize q % r = a; generalize q / r = b; rw [if_neg (by omega)])
theorem adjP_next {r c i : Nat} {F : Nat → D5} (hr : 0 < r) : tab (c * r) (adjP r i c F) = tab (c * r) (adjP r (i + 1) 0 F) := tab_congr (fun q hq => by
  have h1 : q / r < c := Nat.div_lt_of_lt_mul (by rw [Nat.mul_comm]; exact hq)
  unfold adjP
  generalize q % r = a at *
  generalize q / r = b at *
  by_cases h : a < i + 1
  · rw [if_pos (by omega), if_pos (Or.inl h)]
  · rw [if_neg (by omega), if_neg (by omega)])
theorem adjP_all {r c : Nat} {F : Nat → D5} (hr : 0 < r) : tab (c * r) (adjP r r 0 F) = tab (c * r) F := tab_congr (fun q _ => by
  unfold adjP; rw [if_pos (Or.inl (Nat.mod_lt _ hr))])
theorem adjP_set {r c i j : Nat} {F : Nat → D5} {x : D5} (hi : i < r) (hj : j < c) (hx : F (j * r + i) = x) : (tab (c * r) (adjP r i j F)).set (j * r + i) x = tab (c * r) (adjP r i (j + 1) F) := by
  have hlt : j * r + i < c * r := by
    have h1 : (j + 1) * r ≤ c * r := Nat.mul_le_mul_right r hj
    rw [Nat.add_mul, Nat.one_mul] at h1
    omega
  rw [tab_set hlt]
  refine tab_congr (fun q _ => ?_)
  have hm := Nat.div_add_mod q r
  unfold adjP
  by_cases h : q = j * r + i
  · subst h
    have e1 : (j * r + i) % r = i := by rw [Nat.mul_comm, Nat.mul_add_mod, Nat.mod_eq_of_lt hi]
    have e2 : (j * r + i) / r = j := by rw [Nat.mul_comm, Nat.mul_add_div (by omega), Nat.div_eq_of_lt hi, Nat.add_zero]
    rw [if_pos rfl, if_pos (Or.inr ⟨e1, by omega⟩), hx]
  · rw [if_neg h]
    have h2 : ¬ (q % r = i ∧ q / r = j) := fun ⟨a, b⟩ => h (by rw [← hm, a, b, Nat.mul_comm])
    generalize q % r = a at *
    generalize q / r = b at *
    by_cases h3 : a < i ∨ (a = i ∧ b < j)
    · rw [if_pos h3, if_pos (by omega)]
    · rw [if_neg h3, if_neg (by omega)]

set_option maxRecDepth 100000 in
set_option maxHeartbeats 8000000 in
theorem adj_i_t {R C N9 : Nat} {g0 n cp : Nat} {xs : List D5} {w : World} (hA : Rd w (some ⟨g0, 0, none⟩) xs) (hn : xs.length = n) (hok : okM (R : Int) (C : Int) n xs = true) (hcp : n ≤ cp) (hcp2 : cp ≤ 1048576) (hN9 : N9 = C * R) :
    Calls Try.prog 23 #[mv (R : Int) (C : Int) (some ⟨g0, 0, none⟩) n cp] w fun ee w' => ∃ g : Nat, ee = .returned (mt (C : Int) (R : Int) (some ⟨g, 0, none⟩) N9 N9 true) ∧ Bk w' g 37 (tab N9 (adjF R C xs)) ∧ w.heap.size ≤ g ∧ Below w.heap.size w w' := by
  obtain ⟨hnn, h1, h2, h3, h4, h5⟩ := okM_nat2 hok
  have k2 : (C : Int) ≤ 32 := by omega
  have k4 : (R : Int) ≤ 32 := by omega
  have hn1 : N9 ≤ 1024 := by rw [hN9, Nat.mul_comm, ← hnn]; exact h5
  have HNN := hid hnn
  have H9 := hid hN9
  clear hnn hN9
  have HA := hid hA
  have HN := hid hn
  have HO := hid hok
  clear hA hn hok
  go_enter Try.func23, Try.ntmps23
  go_wp2_with (fail)
  refine (vm_i_t (xs := xs) HO.out ?_ HN.out).mono ?_
  · exact HA.out.mono (by (repeat' (first | (with_reducible exact Below.refl _ _) | (with_reducible assumption) | (with_reducible refine Below.alloc ?_ ?_ _) | (with_reducible refine Below.drew ?_) | (with_reducible refine below_drewN ?_ _) | (with_reducible refine Below.setCell ?_ ?_ _) | (with_reducible refine chain ?_ (by assumption) ?_) | omega | (simp; done) | (simp; omega))))
  rintro ee w1 ⟨rfl, hb1⟩
  obtain ⟨hc1, hf1, _⟩ := bcell hb1; have hz1 := hb1.size; (try simp at hz1); (try have hx10 : w.heap.size < w1.heap.size := (by omega)); (try have hx11 : w.heap.size + 1 < w1.heap.size := (by omega)); (try have hx12 : w.heap.size + 1 + 1 < w1.heap.size := (by omega)); (try have hx13 : w.heap.size + 1 + 1 + 1 < w1.heap.size := (by omega))
  have Xm1 : Hid (Bx w1 (w.heap.size) 26 #[.int .i64 (R : Int), .int .i64 (C : Int), .slice (some ⟨g0, 0, none⟩) n cp]) := by show Bx _ _ _ _; (repeat' (first | (with_reducible assumption) | (refine Bx.new (by first | (with_reducible rfl) | (simp; done))) | (with_reducible refine Bx.alloc ?_ _) | (with_reducible refine Bx.drew ?_) | (with_reducible refine Bx.drewN ?_ _) | (with_reducible refine Bx.mono ?_ (by assumption)) | (with_reducible refine Bx.badly ?_ (by assumption) (by omega)) | (with_reducible refine Bx.far ?_ (by (try simp only [World.size_alloc, World.size_drew]); omega)) | (with_reducible refine Bx.set ?_ rfl) | (with_reducible refine Bx.grown ?_ (by assumption) (by assumption))))
  have Xz1 : Hid (Bx w1 (w.heap.size + 1) 26 #[.int .i64 0, .int .i64 0, .slice none 0 0]) := by show Bx _ _ _ _; (repeat' (first | (with_reducible assumption) | (refine Bx.new (by first | (with_reducible rfl) | (simp; done))) | (with_reducible refine Bx.alloc ?_ _) | (with_reducible refine Bx.drew ?_) | (with_reducible refine Bx.drewN ?_ _) | (with_reducible refine Bx.mono ?_ (by assumption)) | (with_reducible refine Bx.badly ?_ (by assumption) (by omega)) | (with_reducible refine Bx.far ?_ (by (try simp only [World.size_alloc, World.size_drew]); omega)) | (with_reducible refine Bx.set ?_ rfl) | (with_reducible refine Bx.grown ?_ (by assumption) (by assumption))))
  go_wp2_with (fail)
  refine (zm (r := C) (c := R) (n := N9) (by rw [H9.out]; simp) hn1).mono ?_
  rintro ee w2 ⟨gz, rfl, hBz, hgz, hb2⟩
  obtain ⟨hc2, hf2, _⟩ := bcell hb2; have hz2 := hb2.size; (try simp at hz2); (try have hx20 : w.heap.size < w2.heap.size := (by omega)); (try have hx21 : w.heap.size + 1 < w2.heap.size := (by omega)); (try have hx22 : w.heap.size + 1 + 1 < w2.heap.size := (by omega)); (try have hx23 : w.heap.size + 1 + 1 + 1 < w2.heap.size := (by omega))
  have hw2 : Below w.heap.size w w2 := by (repeat' (first | (with_reducible exact Below.refl _ _) | (with_reducible assumption) | (with_reducible refine Below.alloc ?_ ?_ _) | (with_reducible refine Below.drew ?_) | (with_reducible refine below_drewN ?_ _) | (with_reducible refine Below.setCell ?_ ?_ _) | (with_reducible refine chain ?_ (by assumption) ?_) | omega | (simp; done) | (simp; omega)))
  have Xm2 := hid (Xm1.out.mono hb2)
  have Xz2 := hid (Xz1.out.mono hb2)
  have lz1 := hBz.lt
  have HBz := hid hBz
  clear hBz
  go_wp2_with (fail)
  go_loopg [19] R (fun q s1 wo => ∃ i : Nat, i + q = R ∧ s1 = .int .i64 (i : Int) ∧ Hid (Bx wo (w.heap.size) 26 #[.int .i64 (R : Int), .int .i64 (C : Int), .slice (some ⟨g0, 0, none⟩) n cp]) ∧ Hid (Bx wo (w.heap.size + 1) 26 #[.int .i64 0, .int .i64 0, .slice none 0 0]) ∧ Hid (Bx wo (w2.heap.size) 26 #[.int .i64 (C : Int), .int .i64 (R : Int), .slice (some ⟨gz, 0, none⟩) N9 N9]) ∧ Hid (Bk wo gz 37 (tab N9 (adjP R i 0 (adjF R C xs)))) ∧ w2.heap.size < wo.heap.size ∧ Below w.heap.size w wo)
  case atStart =>
    have R1 := Xm2.out
    have R2 := Xz2.out
    refine ⟨0, by omega, rfl, (by show Bx _ _ _ _; (repeat' (first | (with_reducible assumption) | (refine Bx.new (by first | (with_reducible rfl) | (simp; done))) | (with_reducible refine Bx.alloc ?_ _) | (with_reducible refine Bx.drew ?_) | (with_reducible refine Bx.drewN ?_ _) | (with_reducible refine Bx.mono ?_ (by assumption)) | (with_reducible refine Bx.badly ?_ (by assumption) (by omega)) | (with_reducible refine Bx.far ?_ (by (try simp only [World.size_alloc, World.size_drew]); omega)) | (with_reducible refine Bx.set ?_ rfl) | (with_reducible refine Bx.grown ?_ (by assumption) (by assumption))))), (by show Bx _ _ _ _; (repeat' (first | (with_reducible assumption) | (refine Bx.new (by first | (with_reducible rfl) | (simp; done))) | (with_reducible refine Bx.alloc ?_ _) | (with_reducible refine Bx.drew ?_) | (with_reducible refine Bx.drewN ?_ _) | (with_reducible refine Bx.mono ?_ (by assumption)) | (with_reducible refine Bx.badly ?_ (by assumption) (by omega)) | (with_reducible refine Bx.far ?_ (by (try simp only [World.size_alloc, World.size_drew]); omega)) | (with_reducible refine Bx.set ?_ rfl) | (with_reducible refine Bx.grown ?_ (by assumption) (by assumption))))), (by show Bx _ _ _ _; (repeat' (first | (with_reducible assumption) | (refine Bx.new (by first | (with_reducible rfl) | (simp; done))) | (with_reducible refine Bx.alloc ?_ _) | (with_reducible refine Bx.drew ?_) | (with_reducible refine Bx.drewN ?_ _) | (with_reducible refine Bx.mono ?_ (by assumption)) | (with_reducible refine Bx.badly ?_ (by assumption) (by omega)) | (with_reducible refine Bx.far ?_ (by (try simp only [World.size_alloc, World.size_drew]); omega)) | (with_reducible refine Bx.set ?_ rfl) | (with_reducible refine Bx.grown ?_ (by assumption) (by assumption))))), ?_, by simp, by (repeat' (first | (with_reducible exact Below.refl _ _) | (with_reducible assumption) | (with_reducible refine Below.alloc ?_ ?_ _) | (with_reducible refine Below.drew ?_) | (with_reducible refine below_drewN ?_ _) | (with_reducible refine Below.setCell ?_ ?_ _) | (with_reducible refine chain ?_ (by assumption) ?_) | omega | (simp; done) | (simp; omega)))⟩
    show Bk _ _ _ _
    have := HBz.out
    rw [adjP_0 (r := R) (F := adjF R C xs)] at this
    exact this.alloc _
  case round =>
    obtain ⟨i, hi, rfl, Xm, Xz, Xo, HG, hsz, hB⟩ := hrel
    obtain ⟨wo, rfl⟩ : ∃ wo, wo = wr := ⟨_, rfl⟩
    clear Xm1 Xz1 Xm2 Xz2 HBz
    have cm0 := Xm.out.c 0 rfl
    have cm1 := Xm.out.c 1 rfl
    have cm2 := Xm.out.c 2 rfl
    have lm := Xm.out.lt
    have cz0 := Xz.out.c 0 rfl
    have cz1 := Xz.out.c 1 rfl
    have cz2 := Xz.out.c 2 rfl
    have lz := Xz.out.lt
    have fz := Xz.out.f
    have co0 := Xo.out.c 0 rfl
    have co1 := Xo.out.c 1 rfl
    have co2 := Xo.out.c 2 rfl
    have lo := Xo.out.lt
    cases gk with
    | zero =>
      obtain rfl : i = R := by omega
      go_wp2_with (fail)
      refine bodyPost_ret (v := mt (C : Int) (i : Int) (some ⟨gz, 0, none⟩) N9 N9 true) (by first | (simp [results, Try.results23, go_sem, *]; done) | (simp (disch := (first | omega | (simp; done) | (simp; omega))) [results, Try.results23, go_sem, *]; done) | (simp only [results, Try.results23]; go_simp; done)) rfl ⟨gz, rfl, ?_, by omega, ?_⟩
      · have h1 := HG.out
        rw [H9.out, adjP_all (by omega), ← H9.out] at h1
        (repeat' (first | exact h1 | refine Bk.far ?_ (by show gz ≠ w.heap.size + 1; omega) _))
      · have hBq := hB.size
        (repeat' (first | (with_reducible exact Below.refl _ _) | (with_reducible assumption) | (with_reducible refine Below.alloc ?_ ?_ _) | (with_reducible refine Below.drew ?_) | (with_reducible refine below_drewN ?_ _) | (with_reducible refine Below.setCell ?_ ?_ _) | (with_reducible refine chain ?_ (by assumption) ?_) | omega | (simp; done) | (simp; omega)))
    | succ m =>
      have hlti : i < R := by omega
      obtain ⟨s, hs1, hs2, hs3, hs4⟩ := row_at HNN.out hlti
      have i1 : (i : Int) < (R : Int) := by omega
      have HS1 := hid hs1
      have HS2 := hid hs2
      have HS4 := hid hs4
      clear hs1 hs2 hs4
      go_wp2_with (fail)
      refine (rw_i (s := s) HS1.out HS2.out (by omega) hcp2 h3 (by omega)).mono ?_
      rintro ee w5 ⟨rfl, hb5⟩
      have hz5 := hb5.size
      have Ym := hid (Xm.out.mono hb5)
      have Yz := hid (Xz.out.mono hb5)
      have Yo := hid (Xo.out.mono hb5)
      have HG5 := hid (HG.out.mono hb5)
      have hB5 : Below w.heap.size w w5 := chain hB hb5 hB.size
      clear cm0 cm1 cm2 cz0 cz1 cz2 co0 co1 co2 lm lz lo fz
      go_wp2_with (fail)
      go_loopg [26] C (fun q s1 wi => ∃ j : Nat, j + q = C ∧ s1 = .int .i64 (j : Int) ∧ Hid (Bx wi (w.heap.size) 26 #[.int .i64 (R : Int), .int .i64 (C : Int), .slice (some ⟨g0, 0, none⟩) n cp]) ∧ Hid (Bx wi (w.heap.size + 1) 26 #[.int .i64 0, .int .i64 0, .slice none 0 0]) ∧ Hid (Bx wi (w2.heap.size) 26 #[.int .i64 (C : Int), .int .i64 (R : Int), .slice (some ⟨gz, 0, none⟩) N9 N9]) ∧ Hid (Bk wi gz 37 (tab N9 (adjP R i j (adjF R C xs)))) ∧ w2.heap.size < wi.heap.size ∧ Below w.heap.size w wi)
      case atStart => exact ⟨0, by omega, rfl, Ym, Yz, Yo, HG5, by omega, hB5⟩
      case round =>
        clear Ym Yz Yo HG5 HG Xm Xz Xo
        obtain ⟨j, hj, rfl, Xm, Xz, Xo, HG, hsz, hB⟩ := hrel
        have cm0 := Xm.out.c 0 rfl
        have cm1 := Xm.out.c 1 rfl
        have cm2 := Xm.out.c 2 rfl
        have lm := Xm.out.lt
        have cz0 := Xz.out.c 0 rfl
        have cz1 := Xz.out.c 1 rfl
        have cz2 := Xz.out.c 2 rfl
        have lz := Xz.out.lt
        have co0 := Xo.out.c 0 rfl
        have co1 := Xo.out.c 1 rfl
        have co2 := Xo.out.c 2 rfl
        have lo := Xo.out.lt
        cases gk with
        | zero =>
          obtain rfl : j = C := by omega
          go_wp2_with (fail)
          go_roundg m
          case measure => omega
          case rel =>
            refine ⟨i + 1, by omega, by go_num, Xm, Xz, Xo, ?_, hsz, hB⟩
            show Bk _ _ _ _
            have h1 := HG.out
            rw [H9.out, adjP_next (by omega), ← H9.out] at h1
            exact h1
        | succ m2 =>
          have hltj : j < C := by omega
          have j1 : (j : Int) < (C : Int) := by omega
          have hx := get_of (xs := xs) (q := s + j) (by rw [HN.out]; omega)
          obtain ⟨x, hxe⟩ : ∃ x, x = xs.getD (s + j) z5 := ⟨_, rfl⟩
          rw [← hxe] at hx
          have hokx := all_get (okM_iff.1 HO.out).2.2.2 hx
          have HX : Hid (adjF R C xs (j * R + i) = conj5 x) := by show _ = _; rw [adjF_at hlti, hxe, HS4.out]
          clear hxe
          have HK := hid hokx
          clear hokx
          have hC := HA.out.cx hx
          have hgw := hC.lt
          obtain ⟨q0, q1, q2, q3, q4⟩ := hC.at_ (hB.block g0 hgw)
          simp only [Nat.add_mul] at q0 q1 q2 q3 q4
          clear hC hx
          obtain ⟨t, ht1, ht2, ht3, ht4⟩ := row_at H9.out hltj
          have HT1 := hid ht1
          have HT2 := hid ht2
          have HT4 := hid ht4
          clear ht1 ht2 ht4
          go_wp2_with (fail)
          obtain ⟨W, hW⟩ : ∃ W : World, W = wr.alloc (.cells #[.int .i64 x.a, .int .i64 x.b, .int .i64 x.c, .int .i64 x.d, .int .i64 x.e] 37) := ⟨_, rfl⟩
          have hbW : Below wr.heap.size wr W := by rw [hW]; exact (Below.refl _ _).alloc (Nat.le_refl _) _
          have XW : Bx W wr.heap.size 37 #[.int .i64 x.a, .int .i64 x.b, .int .i64 x.c, .int .i64 x.d, .int .i64 x.e] := by rw [hW]; exact Bx.new rfl
          have hzW : W.heap.size = wr.heap.size + 1 := by rw [hW]; simp
          have hzW1 : wr.heap.size < W.heap.size := by omega
          rw [← hW]
          clear hW hzW
          have XmW := hid (Xm.out.mono hbW)
          have XzW := hid (Xz.out.mono hbW)
          have XoW := hid (Xo.out.mono hbW)
          have HGW := hid (HG.out.mono hbW)
          have hBW : Below w.heap.size w W := chain hB hbW hB.size
          have co0 := XoW.out.c 0 rfl
          have co1 := XoW.out.c 1 rfl
          have co2 := XoW.out.c 2 rfl
          have d0 := XW.c 0 rfl
          have d1 := XW.c 1 rfl
          have d2 := XW.c 2 rfl
          have d3 := XW.c 3 rfl
          have d4 := XW.c 4 rfl
          clear XW
          have yco0 : W.drew.cell? ⟨w2.heap.size, 0, none⟩ = some (.int .i64 (C : Int)) := co0
          have yco1 : W.drew.cell? ⟨w2.heap.size, 1, none⟩ = some (.int .i64 (R : Int)) := co1
          have yco2 : W.drew.cell? ⟨w2.heap.size, 2, none⟩ = some (.slice (some ⟨gz, 0, none⟩) N9 N9) := co2
          have yd0 : W.drew.cell? ⟨wr.heap.size, 0, none⟩ = some (.int .i64 x.a) := d0
          have yd1 : W.drew.cell? ⟨wr.heap.size, 1, none⟩ = some (.int .i64 x.b) := d1
          have yd2 : W.drew.cell? ⟨wr.heap.size, 2, none⟩ = some (.int .i64 x.c) := d2
          have yd3 : W.drew.cell? ⟨wr.heap.size, 3, none⟩ = some (.int .i64 x.d) := d3
          have yd4 : W.drew.cell? ⟨wr.heap.size, 4, none⟩ = some (.int .i64 x.e) := d4
          refine wp_region_x (fun w' => w'.cell? ⟨w2.heap.size, 0, none⟩ = some (.int .i64 (C : Int)) ∧ w'.cell? ⟨w2.heap.size, 1, none⟩ = some (.int .i64 (R : Int)) ∧ w'.cell? ⟨w2.heap.size, 2, none⟩ = some (.slice (some ⟨gz, 0, none⟩) N9 N9) ∧ w'.cell? ⟨wr.heap.size, 0, none⟩ = some (.int .i64 x.a) ∧ w'.cell? ⟨wr.heap.size, 1, none⟩ = some (.int .i64 x.b) ∧ w'.cell? ⟨wr.heap.size, 2, none⟩ = some (.int .i64 x.c) ∧ w'.cell? ⟨wr.heap.size, 3, none⟩ = some (.int .i64 x.d) ∧ w'.cell? ⟨wr.heap.size, 4, none⟩ = some (.int .i64 x.e)) 1000 (by kernel_rfl) ⟨yco0, yco1, yco2, yd0, yd1, yd2, yd3, yd4⟩ (fun hS0 => ?_)
          refine wpAnyX_take (i := 0) (oi := _) (v := ?_) rfl (by kernel_rfl) (by kernel_rfl) (by kernel_rfl) (by kernel_rfl) (fun _ _ _ h => h) (Or.inl ⟨by rfl, ?_⟩) hS0 ?_
          rotate_left 1
          · (intro w hSw; (try dsimp only at hSw); go_simp; (try with_reducible rfl))
          try simp only [Act.put, List.setIfInBounds_toArray, List.set_cons_zero, List.set_cons_succ]
          refine wpAnyX_take (i := 1) (oi := _) (v := ?_) rfl (by kernel_rfl) (by kernel_rfl) (by kernel_rfl) (by kernel_rfl) (fun _ _ _ h => h) (Or.inl ⟨by rfl, ?_⟩) hS0 ?_
          rotate_left 1
          · (intro w hSw; (try dsimp only at hSw); go_simp; (try with_reducible rfl))
          try simp only [Act.put, List.setIfInBounds_toArray, List.set_cons_zero, List.set_cons_succ]
          refine wpAnyX_take (i := 3) (oi := _) (v := ?_) rfl (by kernel_rfl) (by kernel_rfl) (by kernel_rfl) (by kernel_rfl) (fun _ _ _ h => h) (Or.inl ⟨by rfl, ?_⟩) hS0 ?_
          rotate_left 1
          · (intro w hSw; (try dsimp only at hSw); go_simp; (try with_reducible rfl))
          try simp only [Act.put, List.setIfInBounds_toArray, List.set_cons_zero, List.set_cons_succ]
          refine wpAnyX_take (i := 4) (oi := _) (v := ?_) rfl (by kernel_rfl) (by kernel_rfl) (by kernel_rfl) (by kernel_rfl) (fun _ _ _ h => h) (Or.inl ⟨by rfl, ?_⟩) hS0 ?_
          rotate_left 1
          · (intro w hSw; (try dsimp only at hSw); go_simp; (try with_reducible rfl))
          try simp only [Act.put, List.setIfInBounds_toArray, List.set_cons_zero, List.set_cons_succ]
          refine wpAnyX_one (i := 2) (o := _) rfl (by kernel_rfl) (fun K hK => ?_)
          go_simp
          refine (rw_i (s := t) HT1.out HT2.out ht3 (by omega) h1 (by omega)).mono ?_
          rintro ee w7 ⟨rfl, hb7⟩
          have hc7 : Below W.heap.size W w7 := ⟨hb7.os, hb7.tape, hb7.output, hb7.size, hb7.block⟩
          refine hK.out _ _ (fun _ => ?_) (fun hS1 => ?_)
          · exact ⟨kc hb7 (hS0.1), kc hb7 (hS0.2.1), kc hb7 (hS0.2.2.1), kc hb7 (hS0.2.2.2.1), kc hb7 (hS0.2.2.2.2.1), kc hb7 (hS0.2.2.2.2.2.1), kc hb7 (hS0.2.2.2.2.2.2.1), kc hb7 (hS0.2.2.2.2.2.2.2)⟩
          clear hK K
          have hS1 := hS1 (by decide)
          try simp only [Act.put, List.setIfInBounds_toArray, List.set_cons_zero, List.set_cons_succ]
          refine wpAnyX_one (i := 5) (o := _) rfl (by kernel_rfl) (fun K hK => ?_)
          go_simp
          refine (cji (x := x) HK.out _).mono ?_
          rintro ee w8 ⟨rfl, hb8⟩
          have hc8 : Below W.heap.size W w8 := chain hc7 hb8 hc7.size
          refine hK.out _ _ (fun _ => ?_) (fun hS2 => ?_)
          · exact ⟨kc hb8 (hS1.1), kc hb8 (hS1.2.1), kc hb8 (hS1.2.2.1), kc hb8 (hS1.2.2.2.1), kc hb8 (hS1.2.2.2.2.1), kc hb8 (hS1.2.2.2.2.2.1), kc hb8 (hS1.2.2.2.2.2.2.1), kc hb8 (hS1.2.2.2.2.2.2.2)⟩
          clear hK K
          have hS2 := hS2 (by decide)
          try simp only [Act.put, List.setIfInBounds_toArray, List.set_cons_zero, List.set_cons_succ]
          refine wpAnyX_take (i := 6) (oi := _) (v := ?_) rfl (by kernel_rfl) (by kernel_rfl) (by kernel_rfl) (by kernel_rfl) (fun _ _ _ h => h) (Or.inl ⟨by rfl, ?_⟩) hS2 ?_
          rotate_left 1
          · (intro w hSw; (try dsimp only at hSw); go_simp; (try with_reducible rfl))
          try simp only [Act.put, List.setIfInBounds_toArray, List.set_cons_zero, List.set_cons_succ]
          refine wpAnyX_take (i := 7) (oi := _) (v := ?_) rfl (by kernel_rfl) (by kernel_rfl) (by kernel_rfl) (by kernel_rfl) (fun _ _ _ h => h) (Or.inl ⟨by rfl, ?_⟩) hS2 ?_
          rotate_left 1
          · (intro w hSw; (try dsimp only at hSw); go_simp; (try with_reducible rfl))
          try simp only [Act.put, List.setIfInBounds_toArray, List.set_cons_zero, List.set_cons_succ]
          refine wpAnyX_take (i := 8) (oi := _) (v := ?_) rfl (by kernel_rfl) (by kernel_rfl) (by kernel_rfl) (by kernel_rfl) (fun _ _ _ h => h) (Or.inl ⟨by rfl, ?_⟩) hS2 ?_
          rotate_left 1
          · (intro w hSw; (try dsimp only at hSw); go_simp; (try with_reducible rfl))
          try simp only [Act.put, List.setIfInBounds_toArray, List.set_cons_zero, List.set_cons_succ]
          refine wpAnyX_take (i := 9) (oi := _) (v := ?_) rfl (by kernel_rfl) (by kernel_rfl) (by kernel_rfl) (by kernel_rfl) (fun _ _ _ h => h) (Or.inl ⟨by rfl, ?_⟩) hS2 ?_
          rotate_left 1
          · (intro w hSw; (try dsimp only at hSw); go_simp; (try with_reducible rfl))
          try simp only [Act.put, List.setIfInBounds_toArray, List.set_cons_zero, List.set_cons_succ]
          refine wpAnyX_one (i := 10) (o := _) rfl (by kernel_rfl) (fun K hK => ?_)
          have hG8 := hid (HGW.out.mono hc8)
          have fr8 := hG8.out.fr
          obtain ⟨p0, p1, p2, p3, p4⟩ := hG8.out.cx (k := t + i) (tab_get (by omega))
          simp only [Nat.add_mul] at p0 p1 p2 p3 p4
          have negz : gz ≠ w2.heap.size := by omega
          have negw : gz ≠ wr.heap.size := by have := HG.out.lt; omega
          go_simp
          refine hK.out _ _ (fun _ => ?_) (fun hS3 => ?_)
          · exact ⟨kst5 negz (hS2.1), kst5 negz (hS2.2.1), kst5 negz (hS2.2.2.1), kst5 negw (hS2.2.2.2.1), kst5 negw (hS2.2.2.2.2.1), kst5 negw (hS2.2.2.2.2.2.1), kst5 negw (hS2.2.2.2.2.2.2.1), kst5 negw (hS2.2.2.2.2.2.2.2)⟩
          clear hK K
          have hS3 := hS3 (by decide)
          try simp only [Act.put, List.setIfInBounds_toArray, List.set_cons_zero, List.set_cons_succ]
          refine wpAnyX_done (by kernel_rfl) ?_ _
          go_wp2_with (fail)
          go_roundg m2
          case measure => omega
          case rel =>
            have hz8 := hc8.size
            have R1 := XmW.out.mono hc8
            have R2 := XzW.out.mono hc8
            have R3 := XoW.out.mono hc8
            refine ⟨j + 1, by omega, by go_num, (by show Bx _ _ _ _; (repeat' (first | (with_reducible assumption) | (refine Bx.new (by first | (with_reducible rfl) | (simp; done))) | (with_reducible refine Bx.alloc ?_ _) | (with_reducible refine Bx.drew ?_) | (with_reducible refine Bx.drewN ?_ _) | (with_reducible refine Bx.mono ?_ (by assumption)) | (with_reducible refine Bx.badly ?_ (by assumption) (by omega)) | (with_reducible refine Bx.far ?_ (by (try simp only [World.size_alloc, World.size_drew]); omega)) | (with_reducible refine Bx.set ?_ rfl) | (with_reducible refine Bx.grown ?_ (by assumption) (by assumption))))), (by show Bx _ _ _ _; (repeat' (first | (with_reducible assumption) | (refine Bx.new (by first | (with_reducible rfl) | (simp; done))) | (with_reducible refine Bx.alloc ?_ _) | (with_reducible refine Bx.drew ?_) | (with_reducible refine Bx.drewN ?_ _) | (with_reducible refine Bx.mono ?_ (by assumption)) | (with_reducible refine Bx.badly ?_ (by assumption) (by omega)) | (with_reducible refine Bx.far ?_ (by (try simp only [World.size_alloc, World.size_drew]); omega)) | (with_reducible refine Bx.set ?_ rfl) | (with_reducible refine Bx.grown ?_ (by assumption) (by assumption))))), (by show Bx _ _ _ _; (repeat' (first | (with_reducible assumption) | (refine Bx.new (by first | (with_reducible rfl) | (simp; done))) | (with_reducible refine Bx.alloc ?_ _) | (with_reducible refine Bx.drew ?_) | (with_reducible refine Bx.drewN ?_ _) | (with_reducible refine Bx.mono ?_ (by assumption)) | (with_reducible refine Bx.badly ?_ (by assumption) (by omega)) | (with_reducible refine Bx.far ?_ (by (try simp only [World.size_alloc, World.size_drew]); omega)) | (with_reducible refine Bx.set ?_ rfl) | (with_reducible refine Bx.grown ?_ (by assumption) (by assumption))))), ?_, by (try simp only [World.size_setCell]); omega, ?_⟩
            · show Bk _ _ _ _
              have h1 := hG8.out.set (k := t + i) (conj5 x) (by rw [tab_len]; omega)
              rw [HT4.out] at h1
              rw [H9.out, adjP_set hlti hltj HX.out, ← H9.out] at h1
              rw [← HT4.out, Nat.add_mul] at h1
              exact h1
            · exact set5_below (x := conj5 x) (chain hBW hc8 hBW.size) (by omega)

end Go.Proofs.Ytncgccpkbneagaa
