/- The contract of the model of DivRing behind its tests, out of those of what it calls. -/
import Derived.Test.YtdcmicianbihjaaDivK
namespace Go.Proofs.Ytdcmicianbihjaa
open Go.RowKit RM
set_option linter.unusedVariables false
set_option linter.unusedSimpArgs false

set_option maxRecDepth 100000 in
set_option maxHeartbeats 16000000 in
theorem div_s_g (a b c d p q r s u v e0 e1 e2 e3 g0 g1 g2 g3 : Int) (ok1 ok2 : Bool) (res : Value) (w : World) (hu : -1000000000 ≤ u ∧ u ≤ 1000000000) (hv : -1000000000 ≤ v ∧ v ≤ 1000000000) (hu0 : (u == 0) = false) (hn2 : ¬ ((u * u - 2 * v * v) = 0)) (hg : vr g0 g1 g2 g3 = true) (hres : ((ok1 && (ok2 && ((g0.tmod (u * u - 2 * v * v) == 0) && ((g1.tmod (u * u - 2 * v * v) == 0) && ((g2.tmod (u * u - 2 * v * v) == 0) && (g3.tmod (u * u - 2 * v * v) == 0)))))) = true → res = rt (g0.tdiv (u * u - 2 * v * v)) (g1.tdiv (u * u - 2 * v * v)) (g2.tdiv (u * u - 2 * v * v)) (g3.tdiv (u * u - 2 * v * v)) true) ∧ ((ok1 && (ok2 && ((g0.tmod (u * u - 2 * v * v) == 0) && ((g1.tmod (u * u - 2 * v * v) == 0) && ((g2.tmod (u * u - 2 * v * v) == 0) && (g3.tmod (u * u - 2 * v * v) == 0)))))) = false → res = rt 0 0 0 0 false)) (ha : ∀ w : World, Calls Try.prog 46 #[rg p q r s] w fun e w' => e = .returned (.tuple #[.int .i64 u, .int .i64 v, .bool true]) ∧ Below w.heap.size w w') (hy : vr p q r s = true) (hm : ∀ w : World, Calls Try.prog 21 #[rg a b c d, rg p (-s) (-r) (-q)] w fun e w' => e = .returned (rt e0 e1 e2 e3 ok1) ∧ Below w.heap.size w w') (hk : ∀ w : World, Calls Try.prog 21 #[rg e0 e1 e2 e3, rg u (-v) 0 v] w fun e w' => e = .returned (rt g0 g1 g2 g3 ok2) ∧ Below w.heap.size w w') :
    Calls Try.prog 47 #[rg a b c d, rg p q r s] w fun e w' => e = .returned res ∧ Below w.heap.size w w' := by
  have HA := hid ha
  clear ha
  have HY := hid hy
  clear hy
  have HM := hid hm
  clear hm
  have HK := hid hk
  clear hk
  obtain ⟨uu1, uu2⟩ := mul_bd hu hu
  have hvv := mul_bd hv hv
  have has : 2 * v * v = 2 * (v * v) := Int.mul_assoc 2 v v
  have v21 : -2000000000000000000 ≤ 2 * v * v := by rw [has]; omega
  have v22 : 2 * v * v ≤ 2000000000000000000 := by rw [has]; omega
  clear hvv has
  obtain ⟨u1, u2⟩ := hu
  obtain ⟨v1, v2⟩ := hv
  obtain ⟨hg0, hg1, hg2, hg3⟩ := vr_iff.1 hg
  clear hg
  obtain ⟨ta0, tb0⟩ := tdiv_bd2 (a := g0) (n := (u * u - 2 * v * v)) (by omega)
  obtain ⟨ta1, tb1⟩ := tdiv_bd2 (a := g1) (n := (u * u - 2 * v * v)) (by omega)
  obtain ⟨ta2, tb2⟩ := tdiv_bd2 (a := g2) (n := (u * u - 2 * v * v)) (by omega)
  obtain ⟨ta3, tb3⟩ := tdiv_bd2 (a := g3) (n := (u * u - 2 * v * v)) (by omega)
  clear hg0 hg1 hg2 hg3
  have HRES := hid hres
  clear hres
  go_enter Try.func47, Try.ntmps47
  go_upto_region 4 with ((go_at_call 46; ((with_reducible refine (HA.out _).mono ?_); rintro e w1 ⟨rfl, hb1⟩; obtain ⟨hc1, hf1, _⟩ := bcell hb1; have hz1 := hb1.size; (try simp at hz1); (try have hx10 : w.heap.size < w1.heap.size := (by omega)); (try have hx11 : w.heap.size + 1 < w1.heap.size := (by omega)); (try have hx12 : w.heap.size + 1 + 1 < w1.heap.size := (by omega)); (try have hx13 : w.heap.size + 1 + 1 + 1 < w1.heap.size := (by omega)))))
  have x0 : w1.cell? ⟨w.heap.size, 0, none⟩ = some (.int .i64 a) := by go_simp
  have x1 : w1.cell? ⟨w.heap.size, 1, none⟩ = some (.int .i64 b) := by go_simp
  have x2 : w1.cell? ⟨w.heap.size, 2, none⟩ = some (.int .i64 c) := by go_simp
  have x3 : w1.cell? ⟨w.heap.size, 3, none⟩ = some (.int .i64 d) := by go_simp
  have x4 : w1.cell? ⟨w.heap.size + 1, 0, none⟩ = some (.int .i64 p) := by go_simp
  have x5 : w1.cell? ⟨w.heap.size + 1, 1, none⟩ = some (.int .i64 q) := by go_simp
  have x6 : w1.cell? ⟨w.heap.size + 1, 2, none⟩ = some (.int .i64 r) := by go_simp
  have x7 : w1.cell? ⟨w.heap.size + 1, 3, none⟩ = some (.int .i64 s) := by go_simp
  have x8 : w1.cell? ⟨w.heap.size + 1 + 1, 0, none⟩ = some (.int .i64 0) := by go_simp
  have x9 : w1.cell? ⟨w.heap.size + 1 + 1, 1, none⟩ = some (.int .i64 0) := by go_simp
  have x10 : w1.cell? ⟨w.heap.size + 1 + 1, 2, none⟩ = some (.int .i64 0) := by go_simp
  have x11 : w1.cell? ⟨w.heap.size + 1 + 1, 3, none⟩ = some (.int .i64 0) := by go_simp
  have fz20 : w1.frozen? ⟨w.heap.size + 1 + 1, 0, none⟩ = false := by go_simp
  have fz21 : w1.frozen? ⟨w.heap.size + 1 + 1, 1, none⟩ = false := by go_simp
  have fz22 : w1.frozen? ⟨w.heap.size + 1 + 1, 2, none⟩ = false := by go_simp
  have fz23 : w1.frozen? ⟨w.heap.size + 1 + 1, 3, none⟩ = false := by go_simp
  have hs0 : w.heap.size < w1.heap.size := World.block_lt_of_cell? w1 _ x0
  have hs1 : w.heap.size + 1 < w1.heap.size := World.block_lt_of_cell? w1 _ x4
  have hs2 : w.heap.size + 1 + 1 < w1.heap.size := World.block_lt_of_cell? w1 _ x8
  have hBW : Below w.heap.size w w1 := by
    repeat' (first | (with_reducible exact Below.refl _ _) | (with_reducible refine Below.alloc ?_ ?_ _) | (with_reducible refine Below.drew ?_) | (with_reducible refine Below.setCell ?_ ?_ _) | (with_reducible refine chain ?_ (by assumption) ?_) | omega | (simp; done) | (simp; omega))
  clear hb1 hc1 hf1 hz1
  clear hx10 hx11 hx12
  go_cut [9, 10] (fun s9 s10 wx => CutD w e0 e1 e2 e3 ok1 s9 s10 wx)
  case first =>
    have y0 : w1.drew.cell? ⟨w.heap.size, 0, none⟩ = some (.int .i64 a) := x0
    have y1 : w1.drew.cell? ⟨w.heap.size, 1, none⟩ = some (.int .i64 b) := x1
    have y2 : w1.drew.cell? ⟨w.heap.size, 2, none⟩ = some (.int .i64 c) := x2
    have y3 : w1.drew.cell? ⟨w.heap.size, 3, none⟩ = some (.int .i64 d) := x3
    have y4 : w1.drew.cell? ⟨w.heap.size + 1, 0, none⟩ = some (.int .i64 p) := x4
    have y5 : w1.drew.cell? ⟨w.heap.size + 1, 1, none⟩ = some (.int .i64 q) := x5
    have y6 : w1.drew.cell? ⟨w.heap.size + 1, 2, none⟩ = some (.int .i64 r) := x6
    have y7 : w1.drew.cell? ⟨w.heap.size + 1, 3, none⟩ = some (.int .i64 s) := x7
    have y8 : w1.drew.cell? ⟨w.heap.size + 1 + 1, 0, none⟩ = some (.int .i64 0) := x8
    have y9 : w1.drew.cell? ⟨w.heap.size + 1 + 1, 1, none⟩ = some (.int .i64 0) := x9
    have y10 : w1.drew.cell? ⟨w.heap.size + 1 + 1, 2, none⟩ = some (.int .i64 0) := x10
    have y11 : w1.drew.cell? ⟨w.heap.size + 1 + 1, 3, none⟩ = some (.int .i64 0) := x11
    go_region_held3 (fun w' => w'.cell? ⟨w.heap.size, 0, none⟩ = some (.int .i64 a) ∧ w'.cell? ⟨w.heap.size, 1, none⟩ = some (.int .i64 b) ∧ w'.cell? ⟨w.heap.size, 2, none⟩ = some (.int .i64 c) ∧ w'.cell? ⟨w.heap.size, 3, none⟩ = some (.int .i64 d) ∧ w'.cell? ⟨w.heap.size + 1, 0, none⟩ = some (.int .i64 p) ∧ w'.cell? ⟨w.heap.size + 1, 1, none⟩ = some (.int .i64 q) ∧ w'.cell? ⟨w.heap.size + 1, 2, none⟩ = some (.int .i64 r) ∧ w'.cell? ⟨w.heap.size + 1, 3, none⟩ = some (.int .i64 s) ∧ w'.cell? ⟨w.heap.size + 1 + 1, 0, none⟩ = some (.int .i64 0) ∧ w'.cell? ⟨w.heap.size + 1 + 1, 1, none⟩ = some (.int .i64 0) ∧ w'.cell? ⟨w.heap.size + 1 + 1, 2, none⟩ = some (.int .i64 0) ∧ w'.cell? ⟨w.heap.size + 1 + 1, 3, none⟩ = some (.int .i64 0))
      (first | (with_reducible exact ⟨y0, y1, y2, y3, y4, y5, y6, y7, y8, y9, y10, y11⟩) | (go_split_ands; with_reducible exact ⟨kc hb4 (by with_reducible assumption), kc hb4 (by with_reducible assumption), kc hb4 (by with_reducible assumption), kc hb4 (by with_reducible assumption), kc hb4 (by with_reducible assumption), kc hb4 (by with_reducible assumption), kc hb4 (by with_reducible assumption), kc hb4 (by with_reducible assumption), kc hb4 (by with_reducible assumption), kc hb4 (by with_reducible assumption), kc hb4 (by with_reducible assumption), kc hb4 (by with_reducible assumption)⟩) | (go_split_ands; with_reducible exact ⟨kc hb3 (by with_reducible assumption), kc hb3 (by with_reducible assumption), kc hb3 (by with_reducible assumption), kc hb3 (by with_reducible assumption), kc hb3 (by with_reducible assumption), kc hb3 (by with_reducible assumption), kc hb3 (by with_reducible assumption), kc hb3 (by with_reducible assumption), kc hb3 (by with_reducible assumption), kc hb3 (by with_reducible assumption), kc hb3 (by with_reducible assumption), kc hb3 (by with_reducible assumption)⟩) | (go_split_ands; with_reducible exact ⟨kal (by with_reducible assumption), kal (by with_reducible assumption), kal (by with_reducible assumption), kal (by with_reducible assumption), kal (by with_reducible assumption), kal (by with_reducible assumption), kal (by with_reducible assumption), kal (by with_reducible assumption), kal (by with_reducible assumption), kal (by with_reducible assumption), kal (by with_reducible assumption), kal (by with_reducible assumption)⟩) | (go_split_ands; with_reducible exact ⟨kald (by with_reducible assumption), kald (by with_reducible assumption), kald (by with_reducible assumption), kald (by with_reducible assumption), kald (by with_reducible assumption), kald (by with_reducible assumption), kald (by with_reducible assumption), kald (by with_reducible assumption), kald (by with_reducible assumption), kald (by with_reducible assumption), kald (by with_reducible assumption), kald (by with_reducible assumption)⟩) | (go_split_ands; with_reducible exact ⟨kre (by omega) (by with_reducible assumption), kre (by omega) (by with_reducible assumption), kre (by omega) (by with_reducible assumption), kre (by omega) (by with_reducible assumption), kre (by omega) (by with_reducible assumption), kre (by omega) (by with_reducible assumption), kre (by omega) (by with_reducible assumption), kre (by omega) (by with_reducible assumption), kre (by omega) (by with_reducible assumption), kre (by omega) (by with_reducible assumption), kre (by omega) (by with_reducible assumption), kre (by omega) (by with_reducible assumption)⟩) | (go_split_ands; with_reducible exact ⟨ks4 (by omega) (by with_reducible assumption), ks4 (by omega) (by with_reducible assumption), ks4 (by omega) (by with_reducible assumption), ks4 (by omega) (by with_reducible assumption), ks4 (by omega) (by with_reducible assumption), ks4 (by omega) (by with_reducible assumption), ks4 (by omega) (by with_reducible assumption), ks4 (by omega) (by with_reducible assumption), ks4 (by omega) (by with_reducible assumption), ks4 (by omega) (by with_reducible assumption), ks4 (by omega) (by with_reducible assumption), ks4 (by omega) (by with_reducible assumption)⟩))
      (first
        | (go_at_call 63; ((with_reducible refine (lc _ _ _ _ _ HY.out).mono ?_); rintro e w3 ⟨rfl, hb3⟩; obtain ⟨hc3, hf3, hz3⟩ := bcell hb3; (try simp only [World.size_drew, World.size_alloc] at hz3); (try have ho3w1 : w1.heap.size < w3.heap.size := (by omega)); (try have hr3 : w.heap.size + 1 + 1 < w3.heap.size := (by omega))))
        | (go_at_call 21; ((with_reducible refine (HM.out _).mono ?_); rintro e w4 ⟨rfl, hb4⟩; obtain ⟨hc4, hf4, hz4⟩ := bcell hb4; (try simp only [World.size_drew, World.size_alloc] at hz4); (try have ho4w1 : w1.heap.size < w4.heap.size := (by omega)); (try have ho4w3 : w3.heap.size < w4.heap.size := (by omega)); (try have hr4 : w.heap.size + 1 + 1 < w4.heap.size := (by omega)))))
    all_goals (go_wp2_with fail; go_meet)
    all_goals go_split_ands
    all_goals (refine ⟨⟨_, rfl, ?_, ?_, ?_, ?_⟩, rfl, ⟨(by with_reducible assumption), (by with_reducible assumption), (by with_reducible assumption), (by with_reducible assumption)⟩, zf_of hs2 ⟨fz20, fz21, fz22, fz23⟩ ?_, ?_⟩)
    all_goals (first | (go_simp; done) | (repeat' (first | (with_reducible exact Below.refl _ _) | (with_reducible refine Below.alloc ?_ ?_ _) | (with_reducible refine Below.drew ?_) | (with_reducible refine Below.setCell ?_ ?_ _) | (with_reducible refine chain ?_ (by assumption) ?_) | omega | (simp; done) | (simp; omega))))

  case rest =>
    clear x0 x1 x2 x3 x4 x5 x6 x7 x8 x9 x10 x11 fz20 fz21 fz22 fz23 hs0 hs1 hs2 hBW
    obtain ⟨⟨g, rfl, x0, x1, x2, x3⟩, rfl, ⟨x4, x5, x6, x7⟩, ⟨f0, f1, f2, f3⟩, hBx⟩ := hcut
    have hs2 : w.heap.size + 1 + 1 < wc.heap.size := World.block_lt_of_cell? wc _ x4
    have hg : g < wc.heap.size := World.block_lt_of_cell? wc _ x0
    cases ok1
    · cases ok2
      · skip
        have hZ : res = rt 0 0 0 0 false := HRES.out.2 (by simp [])
        subst hZ
        clear HRES
        go_wp2_with (first | (go_at_call 21; ((with_reducible refine (HK.out _).mono ?_); rintro e w5 ⟨rfl, hb5⟩; obtain ⟨hc5, hf5, _⟩ := bcell hb5; have hz5 := hb5.size; (try simp at hz5); (try have hx50 : w.heap.size < w5.heap.size := (by omega)); (try have hx51 : w.heap.size + 1 < w5.heap.size := (by omega)); (try have hx52 : w.heap.size + 1 + 1 < w5.heap.size := (by omega)))) | go_in)
        refine bodyPost_ret (v := rt 0 0 0 0 false) (by simp [results, Try.results47, go_sem, *]) rfl ⟨rfl, ?_⟩
        repeat' (first | (with_reducible exact Below.refl _ _) | (with_reducible refine Below.alloc ?_ ?_ _) | (with_reducible refine Below.drew ?_) | (with_reducible refine Below.setCell ?_ ?_ _) | (with_reducible refine chain ?_ (by assumption) ?_) | omega | (simp; done) | (simp; omega))
      · skip
        have hZ : res = rt 0 0 0 0 false := HRES.out.2 (by simp [])
        subst hZ
        clear HRES
        go_wp2_with (first | (go_at_call 21; ((with_reducible refine (HK.out _).mono ?_); rintro e w5 ⟨rfl, hb5⟩; obtain ⟨hc5, hf5, _⟩ := bcell hb5; have hz5 := hb5.size; (try simp at hz5); (try have hx50 : w.heap.size < w5.heap.size := (by omega)); (try have hx51 : w.heap.size + 1 < w5.heap.size := (by omega)); (try have hx52 : w.heap.size + 1 + 1 < w5.heap.size := (by omega)))) | go_in)
        refine bodyPost_ret (v := rt 0 0 0 0 false) (by simp [results, Try.results47, go_sem, *]) rfl ⟨rfl, ?_⟩
        repeat' (first | (with_reducible exact Below.refl _ _) | (with_reducible refine Below.alloc ?_ ?_ _) | (with_reducible refine Below.drew ?_) | (with_reducible refine Below.setCell ?_ ?_ _) | (with_reducible refine chain ?_ (by assumption) ?_) | omega | (simp; done) | (simp; omega))
    · cases ok2
      · skip
        have hZ : res = rt 0 0 0 0 false := HRES.out.2 (by simp [])
        subst hZ
        clear HRES
        go_wp2_with (first | (go_at_call 21; ((with_reducible refine (HK.out _).mono ?_); rintro e w5 ⟨rfl, hb5⟩; obtain ⟨hc5, hf5, _⟩ := bcell hb5; have hz5 := hb5.size; (try simp at hz5); (try have hx50 : w.heap.size < w5.heap.size := (by omega)); (try have hx51 : w.heap.size + 1 < w5.heap.size := (by omega)); (try have hx52 : w.heap.size + 1 + 1 < w5.heap.size := (by omega)))) | go_in)
        refine bodyPost_ret (v := rt 0 0 0 0 false) (by simp [results, Try.results47, go_sem, *]) rfl ⟨rfl, ?_⟩
        repeat' (first | (with_reducible exact Below.refl _ _) | (with_reducible refine Below.alloc ?_ ?_ _) | (with_reducible refine Below.drew ?_) | (with_reducible refine Below.setCell ?_ ?_ _) | (with_reducible refine chain ?_ (by assumption) ?_) | omega | (simp; done) | (simp; omega))
      · skip
        cases k0 : (g0.tmod (u * u - 2 * v * v) == 0)
        · have kn0 : (g0.tmod (u * u - 2 * v * v) != 0) = true := by simp [bne, k0]
          have hZ : res = rt 0 0 0 0 false := HRES.out.2 (by simp [k0])
          subst hZ
          clear HRES
          go_wp2_with (first | (go_at_call 21; ((with_reducible refine (HK.out _).mono ?_); rintro e w5 ⟨rfl, hb5⟩; obtain ⟨hc5, hf5, _⟩ := bcell hb5; have hz5 := hb5.size; (try simp at hz5); (try have hx50 : w.heap.size < w5.heap.size := (by omega)); (try have hx51 : w.heap.size + 1 < w5.heap.size := (by omega)); (try have hx52 : w.heap.size + 1 + 1 < w5.heap.size := (by omega)))) | go_in)
          refine bodyPost_ret (v := rt 0 0 0 0 false) (by simp [results, Try.results47, go_sem, *]) rfl ⟨rfl, ?_⟩
          repeat' (first | (with_reducible exact Below.refl _ _) | (with_reducible refine Below.alloc ?_ ?_ _) | (with_reducible refine Below.drew ?_) | (with_reducible refine Below.setCell ?_ ?_ _) | (with_reducible refine chain ?_ (by assumption) ?_) | omega | (simp; done) | (simp; omega))
        · have kn0 : (g0.tmod (u * u - 2 * v * v) != 0) = false := by simp [bne, k0]
          cases k1 : (g1.tmod (u * u - 2 * v * v) == 0)
          · have kn1 : (g1.tmod (u * u - 2 * v * v) != 0) = true := by simp [bne, k1]
            have hZ : res = rt 0 0 0 0 false := HRES.out.2 (by simp [k0, k1])
            subst hZ
            clear HRES
            go_wp2_with (first | (go_at_call 21; ((with_reducible refine (HK.out _).mono ?_); rintro e w5 ⟨rfl, hb5⟩; obtain ⟨hc5, hf5, _⟩ := bcell hb5; have hz5 := hb5.size; (try simp at hz5); (try have hx50 : w.heap.size < w5.heap.size := (by omega)); (try have hx51 : w.heap.size + 1 < w5.heap.size := (by omega)); (try have hx52 : w.heap.size + 1 + 1 < w5.heap.size := (by omega)))) | go_in)
            refine bodyPost_ret (v := rt 0 0 0 0 false) (by simp [results, Try.results47, go_sem, *]) rfl ⟨rfl, ?_⟩
            repeat' (first | (with_reducible exact Below.refl _ _) | (with_reducible refine Below.alloc ?_ ?_ _) | (with_reducible refine Below.drew ?_) | (with_reducible refine Below.setCell ?_ ?_ _) | (with_reducible refine chain ?_ (by assumption) ?_) | omega | (simp; done) | (simp; omega))
          · have kn1 : (g1.tmod (u * u - 2 * v * v) != 0) = false := by simp [bne, k1]
            cases k2 : (g2.tmod (u * u - 2 * v * v) == 0)
            · have kn2 : (g2.tmod (u * u - 2 * v * v) != 0) = true := by simp [bne, k2]
              have hZ : res = rt 0 0 0 0 false := HRES.out.2 (by simp [k0, k1, k2])
              subst hZ
              clear HRES
              go_wp2_with (first | (go_at_call 21; ((with_reducible refine (HK.out _).mono ?_); rintro e w5 ⟨rfl, hb5⟩; obtain ⟨hc5, hf5, _⟩ := bcell hb5; have hz5 := hb5.size; (try simp at hz5); (try have hx50 : w.heap.size < w5.heap.size := (by omega)); (try have hx51 : w.heap.size + 1 < w5.heap.size := (by omega)); (try have hx52 : w.heap.size + 1 + 1 < w5.heap.size := (by omega)))) | go_in)
              refine bodyPost_ret (v := rt 0 0 0 0 false) (by simp [results, Try.results47, go_sem, *]) rfl ⟨rfl, ?_⟩
              repeat' (first | (with_reducible exact Below.refl _ _) | (with_reducible refine Below.alloc ?_ ?_ _) | (with_reducible refine Below.drew ?_) | (with_reducible refine Below.setCell ?_ ?_ _) | (with_reducible refine chain ?_ (by assumption) ?_) | omega | (simp; done) | (simp; omega))
            · have kn2 : (g2.tmod (u * u - 2 * v * v) != 0) = false := by simp [bne, k2]
              cases k3 : (g3.tmod (u * u - 2 * v * v) == 0)
              · have kn3 : (g3.tmod (u * u - 2 * v * v) != 0) = true := by simp [bne, k3]
                have hZ : res = rt 0 0 0 0 false := HRES.out.2 (by simp [k0, k1, k2, k3])
                subst hZ
                clear HRES
                go_wp2_with (first | (go_at_call 21; ((with_reducible refine (HK.out _).mono ?_); rintro e w5 ⟨rfl, hb5⟩; obtain ⟨hc5, hf5, _⟩ := bcell hb5; have hz5 := hb5.size; (try simp at hz5); (try have hx50 : w.heap.size < w5.heap.size := (by omega)); (try have hx51 : w.heap.size + 1 < w5.heap.size := (by omega)); (try have hx52 : w.heap.size + 1 + 1 < w5.heap.size := (by omega)))) | go_in)
                refine bodyPost_ret (v := rt 0 0 0 0 false) (by simp [results, Try.results47, go_sem, *]) rfl ⟨rfl, ?_⟩
                repeat' (first | (with_reducible exact Below.refl _ _) | (with_reducible refine Below.alloc ?_ ?_ _) | (with_reducible refine Below.drew ?_) | (with_reducible refine Below.setCell ?_ ?_ _) | (with_reducible refine chain ?_ (by assumption) ?_) | omega | (simp; done) | (simp; omega))
              · have kn3 : (g3.tmod (u * u - 2 * v * v) != 0) = false := by simp [bne, k3]
                have hZ : res = rt (g0.tdiv (u * u - 2 * v * v)) (g1.tdiv (u * u - 2 * v * v)) (g2.tdiv (u * u - 2 * v * v)) (g3.tdiv (u * u - 2 * v * v)) true := HRES.out.1 (by simp [k0, k1, k2, k3])
                subst hZ
                clear HRES
                go_wp2_with (first | (go_at_call 21; ((with_reducible refine (HK.out _).mono ?_); rintro e w5 ⟨rfl, hb5⟩; obtain ⟨hc5, hf5, _⟩ := bcell hb5; have hz5 := hb5.size; (try simp at hz5); (try have hx50 : w.heap.size < w5.heap.size := (by omega)); (try have hx51 : w.heap.size + 1 < w5.heap.size := (by omega)); (try have hx52 : w.heap.size + 1 + 1 < w5.heap.size := (by omega)))) | go_in)
                go_region
                go_wp2
                refine bodyPost_ret (v := rt (g0.tdiv (u * u - 2 * v * v)) (g1.tdiv (u * u - 2 * v * v)) (g2.tdiv (u * u - 2 * v * v)) (g3.tdiv (u * u - 2 * v * v)) true) (by simp [results, Try.results47, go_sem, *]) rfl ⟨rfl, ?_⟩
                repeat' (first | (with_reducible exact Below.refl _ _) | (with_reducible refine Below.alloc ?_ ?_ _) | (with_reducible refine Below.drew ?_) | (with_reducible refine Below.setCell ?_ ?_ _) | (with_reducible refine chain ?_ (by assumption) ?_) | omega | (simp; done) | (simp; omega))

end Go.Proofs.Ytdcmicianbihjaa
