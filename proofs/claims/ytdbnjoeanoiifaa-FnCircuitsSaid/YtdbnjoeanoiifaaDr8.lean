/- Draws of circuits: a circuit to map. -/
import Derived.Test.YtdbnjoeanoiifaaDr7
import Derived.Test.YtdbnjoeanoiifaaFlatI
import Derived.Test.YtdbnjoeanoiifaaGp
import Derived.Deep.LoopGhost
namespace Go.Proofs.Ytdbnjoeanoiifaa
open Go.RowKit
set_option linter.unusedVariables false
set_option linter.unusedSimpArgs false
attribute [local irreducible] World.setCell

/-- a circuit, numbers and a number are drawn -/
def DmP (w : World) (ee : Ending) (w' : World) : Prop := ∃ (n m : Int) (B C : Option Addr) (cq cr : Nat) (xs : List GateV) (ts : List Int), ee = .returned (.tuple #[circuitV n B xs.length cq, .slice C ts.length cr, .int .i64 m]) ∧ xs.length ≤ 8 ∧ 1 ≤ n ∧ n ≤ 3 ∧ n ≤ m ∧ m ≤ n + 2 ∧ (ts.length : Int) = n ∧ Rd gateE w' B xs ∧ Rd intE w' C ts ∧ Pl B xs.length cq ∧ Pl C ts.length cr ∧ Below w.heap.size w w'
theorem DmP.i {n m : Int} {B C : Option Addr} {cq cr k l : Nat} {xs : List GateV} {ts : List Int} {w : World} {ee : Ending} {w' : World} (hk : xs.length = k) (hl : ts.length = l) (h1 : ee = .returned (.tuple #[circuitV n B k cq, .slice C l cr, .int .i64 m])) (h2 : k ≤ 8) (h3 : 1 ≤ n) (h4 : n ≤ 3) (h5 : n ≤ m) (h6 : m ≤ n + 2) (h7 : (l : Int) = n) (hp : Pl B k cq) (hq : Pl C l cr) (h8 : Rd gateE w' B xs) (h9 : Rd intE w' C ts) (h10 : Below w.heap.size w w') : DmP w ee w' := by
  subst hk hl; exact ⟨n, m, B, C, cq, cr, xs, ts, h1, h2, h3, h4, h5, h6, h7, h8, h9, hp, hq, h10⟩
set_option maxRecDepth 100000 in
set_option maxHeartbeats 8000000 in
theorem draw_map {A : Option Addr} {len cap : Nat} {w : World} (h : By8 w A len) :
    Calls Try.prog 25 #[.slice A len cap] w fun ee w' => DmP w ee w' := by
  obtain ⟨i0, hi0, iz0, iz1, iz2⟩ := info_parts infoInt
  have H := lay h
  have hl := h.le
  clear h
  go_enter Try.func25, Try.ntmps25
  go_wp2_with (fail)
  refine (circ_any (g := w.heap.size + 1) (Cu.startg cap _ (H.out.alloc _) (by simp)) hl (by omega)).mono ?_
  rintro ee w1 ⟨n, n1, n3, B, cq, xs, rfl, hx, hO, hC1, hK1⟩
  have hs1 := hK1.size
  simp only [World.size_alloc] at hs1 hO
  obtain ⟨L, hL⟩ : ∃ L, xs.length = L := ⟨_, rfl⟩
  have HL0 := lay hL
  rw [hL] at hO hx ⊢
  obtain ⟨N, rfl⟩ := Int.eq_ofNat_of_zero_le (a := n) (by omega)
  have XR := lay (((Bb.new (W := w) (b := w.heap.size) (t := 42) (cs := #[.int .i64 0, .slice none 0 0]) rfl).alloc _).kp hK1 (by omega))
  have B1 := lay (Kp.belowA (w := w) hK1 (((Below.refl w.heap.size w).alloc (Nat.le_refl _) _).alloc (by simp) _) (by omega))
  have C1 := lay hC1
  have O1 := lay hO
  have PLB := lay hO.pl
  have HV := lay hO.lt
  clear hK1 hC1 hO hL
  go_wp2_with (fail)
  have X0 : (w1.alloc (.cells #[.int .i64 (N : Int), .slice B L cq] 42)).cell? ⟨w1.heap.size, 0, none⟩ = some (.int .i64 (N : Int)) := (Bb.new (W := w1) (b := w1.heap.size) (t := 42) (cs := #[.int .i64 (N : Int), .slice B L cq]) rfl).c 0 rfl
  have yX0 : (w1.alloc (.cells #[.int .i64 (N : Int), .slice B L cq] 42)).drew.cell? ⟨w1.heap.size, 0, none⟩ = some (.int .i64 (N : Int)) := X0
  refine wp_region_x (fun w' => w'.cell? ⟨w1.heap.size, 0, none⟩ = some (.int .i64 (N : Int))) 1000 (by kernel_rfl) yX0 (fun hS0 => ?_)
  refine wpAnyX_take (i := 0) (oi := _) (v := ?_) rfl (by kernel_rfl) (by kernel_rfl) (by kernel_rfl) (by kernel_rfl) (fun _ _ _ h => h) (Or.inl ⟨by rfl, ?_⟩) hS0 ?_
  rotate_left 1
  · (intro w hSw; (try dsimp only at hSw); go_simp; (try with_reducible rfl))
  try simp only [Act.put, List.setIfInBounds_toArray, List.set_cons_zero, List.set_cons_succ]
  refine wpAnyX_take (i := 1) (oi := _) (v := ?_) rfl (by kernel_rfl) (by kernel_rfl) (by kernel_rfl) (by kernel_rfl) (fun _ _ _ h => h) (Or.inl ⟨by rfl, ?_⟩) hS0 ?_
  rotate_left 1
  · (intro w hSw; (try dsimp only at hSw); go_simp; (try with_reducible rfl))
  try simp only [Act.put, List.setIfInBounds_toArray, List.set_cons_zero, List.set_cons_succ]
  refine wpAnyX_take (i := 2) (oi := _) (v := ?_) rfl (by kernel_rfl) (by kernel_rfl) (by kernel_rfl) (by kernel_rfl) (fun _ _ _ h => h) (Or.inl ⟨by rfl, ?_⟩) hS0 ?_
  rotate_left 1
  · (intro w hSw; (try dsimp only at hSw); go_simp; (try with_reducible rfl))
  try simp only [Act.put, List.setIfInBounds_toArray, List.set_cons_zero, List.set_cons_succ]
  refine wpAnyX_one (i := 3) (o := _) rfl (by kernel_rfl) (fun K hK => ?_)
  go_simp
  refine (pick_any 3 (by omega) (by omega) (C1.out.alloc _).drew hl (by omega)).mono ?_
  rintro ee w2 ⟨v0, rfl, p0, p1, hC2, hK20⟩
  have hK2 : Kp (w.heap.size + 1) (w1.alloc (.cells #[.int .i64 (N : Int), .slice B L cq] 42)) w2 := ⟨hK20.os, hK20.tape, hK20.output, hK20.size, hK20.block⟩
  have hs2 := hK2.size
  simp only [World.size_alloc] at hs2
  have e1 : IntKind.i64.wrap ((N : Int) + v0) = (N : Int) + v0 := IntWalk.i64_in _ (by omega)
  refine hK.out _ _ (fun _ => ?_) (fun hS1 => ?_)
  · exact (hK2.cell (k := w1.heap.size) (by simp) (by omega)).trans hS0
  clear hK K
  have hS1 := hS1 (by decide)
  try simp only [Act.put, List.setIfInBounds_toArray, List.set_cons_zero, List.set_cons_succ]
  refine wpAnyX_take (i := 4) (oi := _) (v := ?_) rfl (by kernel_rfl) (by kernel_rfl) (by kernel_rfl) (by kernel_rfl) (fun _ _ _ h => h) (Or.inl ⟨by rfl, ?_⟩) hS1 ?_
  rotate_left 1
  · (intro w hSw; (try dsimp only at hSw); go_simp; (try with_reducible rfl))
  try simp only [Act.put, List.setIfInBounds_toArray, List.set_cons_zero, List.set_cons_succ]
  refine wpAnyX_take (i := 5) (oi := _) (v := ?_) rfl (by kernel_rfl) (by kernel_rfl) (by kernel_rfl) (by kernel_rfl) (fun _ _ _ h => h) (Or.inl ⟨by rfl, ?_⟩) hS1 ?_
  rotate_left 1
  · (intro w hSw; (try dsimp only at hSw); go_simp; (try with_reducible rfl))
  change wpAnyX _ _ _ _ _ _ _ _ (Act.put _ (some 7) _) _
  try simp only [Act.put, List.setIfInBounds_toArray, List.set_cons_zero, List.set_cons_succ]
  refine wpAnyX_done (by kernel_rfl) ?_ _
  have XR2 := lay ((XR.out.alloc _).kp hK2 (by omega))
  have XO2 := lay ((Bb.new (W := w1) (b := w1.heap.size) (t := 42) (cs := #[.int .i64 (N : Int), .slice B L cq]) rfl).kp hK2 (by omega))
  have O2 := lay ((O1.out.alloc _).kp hK2 (by omega))
  have B2 := lay (Kp.belowA (w := w) hK2 (B1.out.alloc (by omega) _) (by omega))
  have C2 := lay (hC2.mono (M' := 100000 + 100 * 0) (by omega))
  clear hC2 hK2 XR B1 C1 O1 X0
  go_wp2_with (fail)
  go_loopg [8, 9] N (fun r s8 s9 wr => ∃ (j : Nat) (v : Value) (ts : List Int), j + r = N ∧ s8 = v ∧ s9 = .int .i64 (j : Int) ∧ Hid (Bb wr w.heap.size 42 #[.int .i64 0, .slice none 0 0]) ∧ Hid (Bb wr w1.heap.size 42 #[.int .i64 (N : Int), .slice B L cq]) ∧ Hid (Own intE wr (w1.heap.size + 1) 3 v ts) ∧ Hid (ts.length = j) ∧ Hid (Own gateE wr (w.heap.size + 1 + 1) 81 (.slice B L cq) xs) ∧ Hid (Cu wr (w.heap.size + 1) A len cap (100000 + 100 * j)) ∧ w1.heap.size + 1 ≤ wr.heap.size ∧ Hid (Below w.heap.size w wr))
  case atStart =>
    exact ⟨0, .slice none 0 0, [], by omega, rfl, rfl, XR2, XO2, lay (Own.nil _ _ _), lay rfl, O2, C2, by omega, B2⟩
  case round =>
    obtain ⟨j, v, ts, hj, rfl, rfl, XR3, XO3, HOw, HL, HO, HC, hsz, HB⟩ := hrel
    clear XR2 XO2 O2 C2 B2
    have R0 := XR3.out.c 0 rfl
    have R1 := XR3.out.c 1 rfl
    have Rf := XR3.out.f
    have Rl := XR3.out.lt
    have O0 := XO3.out.c 0 rfl
    have O1 := XO3.out.c 1 rfl
    have Of := XO3.out.f
    have Ol := XO3.out.lt
    obtain ⟨C, cp, rfl, hRd, hBa⟩ := HOw.out.form
    rw [HL.out] at HOw ⊢
    cases gk with
    | zero =>
      obtain rfl : N = j := by omega
      have HO1 := lay HOw.out.rdS
      have PLC := lay HOw.out.pl
      have HO2 := lay HO.out.rdS
      have hNN : ¬ ((N : Int) < (N : Int)) := by omega
      go_wp2_with (fail)
      refine bodyPost_ret (v := .tuple #[circuitV (N : Int) B L cq, .slice C N cp, .int .i64 ((N : Int) + v0)]) (by first | (simp [results, Try.results25, go_sem, *]; done) | (simp (disch := (first | omega | (simp; done) | (simp; omega))) [results, Try.results25, go_sem, *]; done) | (simp only [results, Try.results25]; go_simp; done)) rfl (DmP.i HL0.out HL.out rfl (by omega) (by omega) (by omega) (by omega) (by omega) rfl PLB.out PLC.out ?_ ?_ ?_)
      · obtain ⟨h1, h2⟩ := HO2.out
        (repeat' (first | exact h1 | (refine Rd.far ?_ (fun a ha => by have h9 := h2 a ha; dsimp only; omega) _)))
      · obtain ⟨h1, h2⟩ := HO1.out
        (repeat' (first | exact h1 | (refine Rd.far ?_ (fun a ha => by have h9 := h2 a ha; dsimp only; omega) _)))
      · have hB9 := HB.out
        have hB9s := hB9.size
        (repeat' (first | (with_reducible exact Below.refl _ _) | (with_reducible assumption) | (with_reducible refine Below.alloc ?_ ?_ _) | (with_reducible refine Below.drew ?_) | (with_reducible refine bdN ?_ _) | (with_reducible refine Below.setCell ?_ ?_ _) | (with_reducible refine chn ?_ (by assumption) ?_) | omega | (simp; done) | (simp; omega)))
    | succ r =>
      have hjN : (j : Int) < (N : Int) := by omega
      clear hRd hBa
      go_wp2_with (fail)
      refine (lmost ((N : Int) + v0) 1 _).mono ?_
      rintro ee w9 ⟨mm, rfl, ⟨a1, a2, a3⟩, rfl⟩
      obtain rfl : mm = (N : Int) + v0 := by omega
      clear a1 a2 a3
      go_wp2_with (fail)
      refine (pick_all (n := (N : Int) + v0) (by omega) HC.out hl (by omega)).mono ?_
      rintro ee w4 ⟨k, rfl, k0, k1, hC4, hK4⟩
      have hs4 := hK4.size
      have hk1 : k < (N : Int) + v0 := by omega
      obtain ⟨q0, hq0, hf⟩ := free_at (ts := ts) (n := (N : Int) + v0) (k := k) (by rw [HL.out]; omega) (by rw [HL.out]; omega) (by omega) k0 hk1
      have HF := lay hf
      have XR4 := lay (XR3.out.kp hK4 (by omega))
      have XO4 := lay (XO3.out.kp hK4 (by omega))
      have HOw4 := lay (HOw.out.kp hK4 (by omega))
      have HO4 := lay (HO.out.kp hK4 (by omega))
      have HB4 := lay (Kp.belowA (w := w) hK4 HB.out (by omega))
      have HC4 := lay (hC4.mono (M' := 100000 + 100 * j + 50 - 10 * q0) (by omega))
      clear hC4 hK4 hf k1 XR3 XO3 HOw HO HB HC R0 R1 Rf Rl O0 O1 Of Ol
      go_wp2_with (fail)
      go_loopg [10] q0 (fun r s10 wr => ∃ k : Int, s10 = .int .i64 k ∧ 0 ≤ k ∧ k < (N : Int) + v0 ∧ Hid ((k + (r : Int)) % ((N : Int) + v0) ∉ ts) ∧ r ≤ 2 ∧ Hid (Bb wr w.heap.size 42 #[.int .i64 0, .slice none 0 0]) ∧ Hid (Bb wr w1.heap.size 42 #[.int .i64 (N : Int), .slice B L cq]) ∧ Hid (Own intE wr (w1.heap.size + 1) 3 (.slice C j cp) ts) ∧ Hid (ts.length = j) ∧ Hid (Own gateE wr (w.heap.size + 1 + 1) 81 (.slice B L cq) xs) ∧ Hid (Cu wr (w.heap.size + 1) A len cap (100000 + 100 * j + 50 - 10 * r)) ∧ w1.heap.size + 1 ≤ wr.heap.size ∧ Hid (Below w.heap.size w wr))
      case atStart =>
        exact ⟨k, rfl, k0, hk1, HF, hq0, XR4, XO4, HOw4, HL, HO4, HC4, by omega, HB4⟩
      case round =>
        obtain ⟨k, rfl, k0, hk1, HF5, hq2, XR5, XO5, HOw5, HL5, HO5, HC5, hsz5, HB5⟩ := hrel
        clear HF XR4 XO4 HOw4 HO4 HC4 HB4
        have HRd := lay HOw5.out.rdS
        by_cases hin : k ∈ ts
        · have HI := lay hin
          clear hin
          go_wp2_with (first | (go_at_call 59; refine (lhas (t := true) (Iff.intro (fun _ => HI.out) (fun _ => rfl)) HRd.out.1 HL5.out (by omega)).mono ?_; rintro ee v9 ⟨rfl, rfl⟩))
          refine (one_any 12 (by omega) (by omega) HC5.out hl (by omega)).mono ?_
          rintro ee w6 ⟨u, rfl, hC6, hK6⟩
          have hs6 := hK6.size
          have XR6 := lay (XR5.out.kp hK6 (by omega))
          have XO6 := lay (XO5.out.kp hK6 (by omega))
          have HOw6 := lay (HOw5.out.kp hK6 (by omega))
          have HO6 := lay (HO5.out.kp hK6 (by omega))
          have HB6 := lay (Kp.belowA (w := w) hK6 HB5.out (by omega))
          have HC6 := lay hC6
          clear hK6 hC6 XR5 XO5 HOw5 HO5 HC5 HB5 HRd
          cases u
          · obtain ⟨q, hq, hf, z0, z1⟩ := free_step (n := (N : Int) + v0) (by omega) k0 hk1 HF5.out HI.out
            have e2 : IntKind.i64.wrap (k + 1) = k + 1 := IntWalk.i64_in _ (by omega)
            have e3 : Int.tmod (k + 1) ((N : Int) + v0) = (k + 1) % ((N : Int) + v0) := Int.tmod_eq_emod_of_nonneg (by omega)
            have e4 : ¬ ((N : Int) + v0 = 0) := by omega
            obtain ⟨k2, hk2⟩ : ∃ k2, (k + 1) % ((N : Int) + v0) = k2 := ⟨_, rfl⟩
            rw [hk2] at hf z0 z1 e3
            have e5 : IntKind.i64.wrap k2 = k2 := IntWalk.i64_in _ (by omega)
            have HF6 := lay hf
            clear hf hk2 HF5
            go_wp2_with (fail)
            go_roundg q
            case measure => omega
            case rel => exact ⟨k2, rfl, z0, z1, HF6, by omega, XR6, XO6, HOw6, HL5, HO6, lay (HC6.out.mono (by omega)), by omega, HB6⟩
          · clear HF5
            have hvl := HOw6.out.lt
            have hmax : j + 1 ≤ maxLen := by unfold maxLen; omega
            have hby : (j + 1) * 8 ≤ 140737488355328 := by omega
            have ej : IntKind.i64.wrap ((j : Int) + 1) = (j : Int) + 1 := IntWalk.i64_in _ (by omega)
            have HVL := lay hvl
            clear hvl
            go_wp2_with (first | (at_builtin; refine wpList_app1 (E := intE) rfl _ _ _ rfl (w1.heap.size + 1) 3 i0 _ 8 Try.underlying53 hi0 iz0 iz1 iz2 rfl _ _ j HL5.out (by rfl) (HOw6.out.alloc _) _ _ k #[.int .i64 k] rfl (by rfl) (heap_alloc_new _ _) hmax hby (by simp only [World.size_alloc]; omega) ?_; intro A2 cp2 w9 hO2 hG2 hat2; have HO9 := lay hO2; have HG9 := lay hG2; clear hO2 hG2 hat2; have hz9 := HG9.out.size; (try simp only [World.size_alloc] at hz9)))
            go_roundg r
            case measure => omega
            case rel =>
              have hvl := HVL.out
              have nea : some (w.heap.size) ≠ (Value.slice C j cp).ownBlock := fun e => by have := (hvl _ e.symm).1; omega
              have neo : some (w1.heap.size) ≠ (Value.slice C j cp).ownBlock := fun e => by have := (hvl _ e.symm).1; omega
              refine ⟨j + 1, .slice A2 (j + 1) cp2, ts ++ [k], by omega, rfl, by go_num, ?_, ?_, HO9, ?_, ?_, ?_, by omega, ?_⟩
              · show Bb _ _ _ _; exact (XR6.out.alloc _).grown HG9.out nea
              · show Bb _ _ _ _; exact (XO6.out.alloc _).grown HG9.out neo
              · show _ = _; rw [List.length_append, HL5.out]; rfl
              · show Own _ _ _ _ _ _; exact (HO6.out.alloc _).beside HG9.out (fun r hr e => by have h8 := (hvl _ hr).1; have h9 := (HV.out _ e.symm).2; omega)
              · show Cu _ _ _ _ _ _; exact ((HC6.out.alloc _).grown HG9.out (fun r hr => by have := (hvl _ hr).1; omega)).mono (by omega)
              · show Below _ _ _; exact ((HB6.out).alloc (by omega) _).grown HG9.out (by (try simp only [World.size_alloc]); omega) (fun r hr => by have := (hvl _ hr).1; omega)
        · have HN := lay hin
          clear hin HF5
          have hvl := HOw5.out.lt
          have hmax : j + 1 ≤ maxLen := by unfold maxLen; omega
          have hby : (j + 1) * 8 ≤ 140737488355328 := by omega
          have ej : IntKind.i64.wrap ((j : Int) + 1) = (j : Int) + 1 := IntWalk.i64_in _ (by omega)
          have HVL := lay hvl
          clear hvl
          go_wp2_with (first | (go_at_call 59; refine (lhas (t := false) (Iff.intro (fun h9 => (by cases h9)) (fun h9 => absurd h9 HN.out)) HRd.out.1 HL5.out (by omega)).mono ?_; rintro ee v9 ⟨rfl, rfl⟩) | (at_builtin; refine wpList_app1 (E := intE) rfl _ _ _ rfl (w1.heap.size + 1) 3 i0 _ 8 Try.underlying53 hi0 iz0 iz1 iz2 rfl _ _ j HL5.out (by rfl) (HOw5.out.alloc _) _ _ k #[.int .i64 k] rfl (by rfl) (heap_alloc_new _ _) hmax hby (by simp only [World.size_alloc]; omega) ?_; intro A2 cp2 w9 hO2 hG2 hat2; have HO9 := lay hO2; have HG9 := lay hG2; clear hO2 hG2 hat2; have hz9 := HG9.out.size; (try simp only [World.size_alloc] at hz9)))
          go_roundg r
          case measure => omega
          case rel =>
            have hvl := HVL.out
            have nea : some (w.heap.size) ≠ (Value.slice C j cp).ownBlock := fun e => by have := (hvl _ e.symm).1; omega
            have neo : some (w1.heap.size) ≠ (Value.slice C j cp).ownBlock := fun e => by have := (hvl _ e.symm).1; omega
            refine ⟨j + 1, .slice A2 (j + 1) cp2, ts ++ [k], by omega, rfl, by go_num, ?_, ?_, HO9, ?_, ?_, ?_, by omega, ?_⟩
            · show Bb _ _ _ _; exact (XR5.out.alloc _).grown HG9.out nea
            · show Bb _ _ _ _; exact (XO5.out.alloc _).grown HG9.out neo
            · show _ = _; rw [List.length_append, HL5.out]; rfl
            · show Own _ _ _ _ _ _; exact (HO5.out.alloc _).beside HG9.out (fun r hr e => by have h8 := (hvl _ hr).1; have h9 := (HV.out _ e.symm).2; omega)
            · show Cu _ _ _ _ _ _; exact ((HC5.out.alloc _).grown HG9.out (fun r hr => by have := (hvl _ hr).1; omega)).mono (by omega)
            · show Below _ _ _; exact ((HB5.out).alloc (by omega) _).grown HG9.out (by (try simp only [World.size_alloc]); omega) (fun r hr => by have := (hvl _ hr).1; omega)

end Go.Proofs.Ytdbnjoeanoiifaa
