/- Draws of circuits: any circuit. -/
import Derived.Test.YtdbnjoeanoiifaaDr3
namespace Go.Proofs.Ytdbnjoeanoiifaa
open Go.RowKit
set_option linter.unusedVariables false
set_option linter.unusedSimpArgs false
attribute [local irreducible] World.setCell

/-- any circuit is drawn -/
def AnP (g : Nat) (A : Option Addr) (len cap M most : Nat) (w : World) (ee : Ending) (w' : World) : Prop := ∃ n : Int, 0 ≤ n ∧ n ≤ 6 ∧ CiP g A len cap M n most w ee w'
theorem Own.off {α : Type} {E : Enc α} {W : World} {base : Nat} {t : TypeId} {v : Value} {xs : List α} (h : Own E W base t v xs) {p : Addr} (hp : some p.block ≠ v.ownBlock) (u : Value) : Own E (W.setCell p u) base t v xs := by
  obtain ⟨h1, h2, h3⟩ := set_os W p u
  refine h.kept (row := some p.block) ⟨h1, h2, h3, by rw [World.size_setCell]; exact Nat.le_refl _, fun k hk hn => Below.heap_setCell _ _ _ _ (fun e => hn (by rw [e]))⟩ ?_
  cases hv : v.ownBlock with
  | none => exact Or.inl rfl
  | some k => exact Or.inr (fun e => hp (by rw [hv, ← e]))

set_option maxRecDepth 100000 in
set_option maxHeartbeats 8000000 in
theorem any_any {g len cap M : Nat} {A : Option Addr} {w : World} (h : Cu w g A len cap M) (hl : (len : Int) ≤ 9223372036854775807) (hM : M ≤ 1000000) :
    Calls Try.prog 45 #[.pointer (some ⟨g, 0, none⟩)] w fun ee w' => AnP g A len cap (M + 80) 9 w ee w' := by
  obtain ⟨i0, hi0, iz0, iz1, iz2⟩ := info_parts infoGate
  have HC := lay h
  have hgl := h.lt
  clear h
  go_enter Try.func45, Try.ntmps45
  go_wp2_with (fail)
  refine (circ_any (HC.out.alloc _) hl (by omega)).mono ?_
  rintro ee w1 ⟨n, n1, n3, B, cq, xs, rfl, hx, hO, hC1, hK1⟩
  have hs1 := hK1.size
  simp only [World.size_alloc] at hs1 hO
  obtain ⟨L, hL⟩ : ∃ L, xs.length = L := ⟨_, rfl⟩
  have HL := lay hL
  rw [hL] at hO hx ⊢
  have XR := lay ((Bb.new (W := w) (b := w.heap.size) (t := 42) (cs := #[.int .i64 0, .slice none 0 0]) rfl).kp hK1 (by omega))
  have K1 := lay (((Kp.refl g w).alloc _).trans hK1)
  have C1 := lay hC1
  have O1 := lay hO
  have HV := lay hO.lt
  clear hK1 hC1 hO hL
  go_wp2_with (fail)
  refine (pick_any 14 (by omega) (by omega) (C1.out.alloc _) hl (by omega)).mono ?_
  rintro ee w2 ⟨v, rfl, p0, p1, hC2, hK2⟩
  have hs2 := hK2.size
  simp only [World.size_alloc] at hs2
  have XR2 := lay ((XR.out.alloc _).kp hK2 (by omega))
  have XX := lay ((Bb.new (W := w1) (b := w1.heap.size) (t := 42) (cs := #[.int .i64 n, .slice B L cq]) rfl).kp hK2 (by omega))
  have O2 := lay ((O1.out.alloc _).kp hK2 (by omega))
  have K2 := lay ((K1.out.alloc _).trans hK2)
  have C2 := lay hC2
  clear hC2 hK2 XR K1 C1 O1
  have R0 := XR2.out.c 0 rfl
  have R1 := XR2.out.c 1 rfl
  have Rf := XR2.out.f
  have Rl := XR2.out.lt
  have X0 := XX.out.c 0 rfl
  have X1 := XX.out.c 1 rfl
  have Xf := XX.out.f
  have Xl := XX.out.lt
  by_cases h0 : v = 0
  · subst h0
    go_wp2_with (fail)
    refine (among_any w2.heap.size 0 4 4 (by omega) (by omega) (C2.out.alloc _) hl (by omega) (by omega) (fun i hi => ?_)).mono ?_
    · obtain rfl | rfl | rfl | rfl : i = 0 ∨ i = 1 ∨ i = 2 ∨ i = 3 := by omega
      all_goals exact ⟨_, by simp; rfl⟩
    rintro ee w3 ⟨q, rfl, ⟨i, hi, hv⟩, hC3, hK3⟩
    have hv3 : 0 ≤ q ∧ q ≤ 6 := by
      obtain rfl | rfl | rfl | rfl : i = 0 ∨ i = 1 ∨ i = 2 ∨ i = 3 := by omega
      all_goals (simp at hv; omega)
    obtain ⟨q0, q6⟩ := hv3
    have hs3 := hK3.size
    simp only [World.size_alloc] at hs3
    have XR3 := lay ((XR2.out.alloc _).kp hK3 (by omega))
    have XX3 := lay ((XX.out.alloc _).kp hK3 (by omega))
    have O3 := lay ((O2.out.alloc _).kp hK3 (by omega))
    have K3 := lay ((K2.out.alloc _).trans hK3)
    have C3 := lay hC3
    clear hC3 hK3 hv hi R0 R1 Rf Rl X0 X1 Xf Xl XR2 XX O2 K2 C2
    have R0 := XR3.out.c 0 rfl
    have R1 := XR3.out.c 1 rfl
    have Rf := XR3.out.f
    have Rl := XR3.out.lt
    have X0 := XX3.out.c 0 rfl
    have X1 := XX3.out.c 1 rfl
    have Xf := XX3.out.f
    have Xl := XX3.out.lt
    go_wp2_with (fail)
    have R9 := O3.out
    have K9 := K3.out
    have C9' := C3.out
    refine bodyPost_ret (v := circuitV q B L cq) (by first | (simp [results, Try.results45, go_sem, *]; done) | (simp (disch := (first | omega | (simp; done) | (simp; omega))) [results, Try.results45, go_sem, *]; done) | (simp only [results, Try.results45]; go_simp; done)) rfl ⟨q, by omega, by omega, CiP.i (xs := xs) HL.out rfl (by omega) ?_ ?_ ?_⟩
    · refine Own.dn (base := (w.heap.size + 1)) ?_ (by omega)
      (repeat' (first | exact R9 | (refine Own.far ?_ (by dsimp only; omega) _) | (refine Own.off ?_ (fun e => by have h8 := HV.out _ e.symm; dsimp only at h8; omega) _)))
    · have C9 := C9'.mono (M' := M + 80) (by omega)
      (repeat' (first | (with_reducible exact C9) | (with_reducible refine Cu.alloc ?_ _) | (with_reducible refine Cu.drew ?_) | (with_reducible refine Cu.set ?_ (by omega))))
    · (repeat' (first | (with_reducible exact K9) | (with_reducible refine Kp.alloc ?_ _) | (with_reducible refine Kp.drew ?_) | (with_reducible refine Kp.setNew ?_ (by omega))))
  · by_cases h1 : v = 1
    · subst h1
      go_wp2_with (fail)
      have neX : some w1.heap.size ≠ (Value.slice B L cq).ownBlock := fun e => by have h8 := HV.out _ e.symm; omega
      have neR : some w.heap.size ≠ (Value.slice B L cq).ownBlock := fun e => by have h8 := HV.out _ e.symm; omega
      have yX0 : w2.drew.cell? ⟨w1.heap.size, 0, none⟩ = some (.int .i64 n) := X0
      have yX1 : w2.drew.cell? ⟨w1.heap.size, 1, none⟩ = some (.slice B L cq) := X1
      refine wp_region_x (fun w' => w'.cell? ⟨w1.heap.size, 0, none⟩ = some (.int .i64 n) ∧ w'.cell? ⟨w1.heap.size, 1, none⟩ = some (.slice B L cq)) 14 (by kernel_rfl) ⟨yX0, yX1⟩ (fun hS0 => ?_)
      refine wpAnyX_take (i := 0) (oi := _) (v := ?_) rfl (by kernel_rfl) (by kernel_rfl) (by kernel_rfl) (by kernel_rfl) (fun _ _ _ h => h) (Or.inl ⟨by rfl, ?_⟩) hS0 ?_
      rotate_left 1
      · (intro w hSw; (try dsimp only at hSw); go_simp; (try with_reducible rfl))
      try simp only [Act.put, List.setIfInBounds_toArray, List.set_cons_zero, List.set_cons_succ]
      refine wpAnyX_take (i := 1) (oi := _) (v := ?_) rfl (by kernel_rfl) (by kernel_rfl) (by kernel_rfl) (by kernel_rfl) (fun _ _ _ h => h) (Or.inl ⟨by rfl, ?_⟩) hS0 ?_
      rotate_left 1
      · (intro w hSw; (try dsimp only at hSw); go_simp; (try with_reducible rfl))
      try simp only [Act.put, List.setIfInBounds_toArray, List.set_cons_zero, List.set_cons_succ]
      refine wpAnyX_take (i := 2) (oi := _) (v := ?_) rfl (by kernel_rfl) (by kernel_rfl) (by kernel_rfl) (by kernel_rfl) (fun _ _ _ h => h) (Or.inl ⟨by rfl, ?_⟩) hS0 ?_
      rotate_left 1
      · (intro w hSw; (try dsimp only at hSw); go_simp; (try with_reducible rfl))
      try simp only [Act.put, List.setIfInBounds_toArray, List.set_cons_zero, List.set_cons_succ]
      refine wpAnyX_take (i := 4) (oi := _) (v := ?_) rfl (by kernel_rfl) (by kernel_rfl) (by kernel_rfl) (by kernel_rfl) (fun _ _ _ h => h) (Or.inl ⟨by rfl, ?_⟩) hS0 ?_
      rotate_left 1
      · (intro w hSw; (try dsimp only at hSw); go_simp; (try with_reducible rfl))
      try simp only [Act.put, List.setIfInBounds_toArray, List.set_cons_zero, List.set_cons_succ]
      refine wpAnyX_take (i := 7) (oi := _) (v := ?_) rfl (by kernel_rfl) (by kernel_rfl) (by kernel_rfl) (by kernel_rfl) (fun _ _ _ h => h) (Or.inl ⟨by rfl, ?_⟩) hS0 ?_
      rotate_left 1
      · (intro w hSw; (try dsimp only at hSw); go_simp; (try with_reducible rfl))
      try simp only [Act.put, List.setIfInBounds_toArray, List.set_cons_zero, List.set_cons_succ]
      refine wpAnyX_one (i := 3) (o := _) rfl (by kernel_rfl) (fun K hK => ?_)
      go_simp
      refine (pick_any 14 (by omega) (by omega) C2.out.drew hl (by omega)).mono ?_
      rintro ee w3 ⟨a3, rfl, a30, a31, hC3, hK30⟩
      have hK3 : Kp g w2 w3 := ⟨hK30.os, hK30.tape, hK30.output, hK30.size, hK30.block⟩
      have hs3 := hK3.size
      have e3 : IntKind.i64.wrap (a3 - 1) = a3 - 1 := IntWalk.i64_in _ (by omega)
      refine hK.out _ _ (fun _ => ?_) (fun hS1 => ?_)
      · exact ⟨(hK3.cell (k := w1.heap.size) (Xl) (by omega)).trans hS0.1, (hK3.cell (k := w1.heap.size) (Xl) (by omega)).trans hS0.2⟩
      clear hK K
      have hS1 := hS1 (by decide)
      try simp only [Act.put, List.setIfInBounds_toArray, List.set_cons_zero, List.set_cons_succ]
      refine wpAnyX_one (i := 5) (o := _) rfl (by kernel_rfl) (fun K hK => ?_)
      go_simp
      refine (pick_any 4 (by omega) (by omega) hC3 hl (by omega)).mono ?_
      rintro ee w4 ⟨a4, rfl, a40, a41, hC4, hK4⟩
      have hs4 := hK4.size
      have e4 : IntKind.i64.wrap (a4 - 1) = a4 - 1 := IntWalk.i64_in _ (by omega)
      refine hK.out _ _ (fun _ => ?_) (fun hS2 => ?_)
      · exact ⟨(hK4.cell (k := w1.heap.size) (by omega) (by omega)).trans hS1.1, (hK4.cell (k := w1.heap.size) (by omega) (by omega)).trans hS1.2⟩
      clear hK K
      have hS2 := hS2 (by decide)
      try simp only [Act.put, List.setIfInBounds_toArray, List.set_cons_zero, List.set_cons_succ]
      refine wpAnyX_take (i := 6) (oi := _) (v := ?_) rfl (by kernel_rfl) (by kernel_rfl) (by kernel_rfl) (by kernel_rfl) (fun _ _ _ h => h) (Or.inl ⟨by rfl, ?_⟩) hS2 ?_
      rotate_left 1
      · (intro w hSw; (try dsimp only at hSw); go_simp; (try with_reducible rfl))
      try simp only [Act.put, List.setIfInBounds_toArray, List.set_cons_zero, List.set_cons_succ]
      refine wpAnyX_one (i := 8) (o := _) rfl (by kernel_rfl) (fun K hK => ?_)
      go_simp
      refine (pick_any 4 (by omega) (by omega) hC4 hl (by omega)).mono ?_
      rintro ee w5 ⟨a5, rfl, a50, a51, hC5, hK5⟩
      have hs5 := hK5.size
      have e5 : IntKind.i64.wrap (a5 - 1) = a5 - 1 := IntWalk.i64_in _ (by omega)
      refine hK.out _ _ (fun _ => ?_) (fun hS3 => ?_)
      · exact ⟨(hK5.cell (k := w1.heap.size) (by omega) (by omega)).trans hS2.1, (hK5.cell (k := w1.heap.size) (by omega) (by omega)).trans hS2.2⟩
      clear hK K
      have hS3 := hS3 (by decide)
      try simp only [Act.put, List.setIfInBounds_toArray, List.set_cons_zero, List.set_cons_succ]
      refine wpAnyX_take (i := 9) (oi := _) (v := ?_) rfl (by kernel_rfl) (by kernel_rfl) (by kernel_rfl) (by kernel_rfl) (fun _ _ _ h => h) (Or.inl ⟨by rfl, ?_⟩) hS3 ?_
      rotate_left 1
      · (intro w hSw; (try dsimp only at hSw); go_simp; (try with_reducible rfl))
      try simp only [Act.put, List.setIfInBounds_toArray, List.set_cons_zero, List.set_cons_succ]
      refine wpAnyX_take (i := 10) (oi := _) (v := ?_) rfl (by kernel_rfl) (by kernel_rfl) (by kernel_rfl) (by kernel_rfl) (fun _ _ _ h => h) (Or.inl ⟨by rfl, ?_⟩) hS3 ?_
      rotate_left 1
      · (intro w hSw; (try dsimp only at hSw); go_simp; (try with_reducible rfl))
      try simp only [Act.put, List.setIfInBounds_toArray, List.set_cons_zero, List.set_cons_succ]
      refine wpAnyX_one (i := 11) (o := _) rfl (by kernel_rfl) (fun K hK => ?_)
      go_simp
      refine hK.out _ _ (fun _ => ?_) (fun hS4 => ?_)
      · first | exact ⟨kclAl hS3.1, kclAl hS3.2⟩ | exact ⟨kclAld hS3.1, kclAld hS3.2⟩
      clear hK K
      have hS4 := hS4 (by decide)
      try simp only [Act.put, List.setIfInBounds_toArray, List.set_cons_zero, List.set_cons_succ]
      refine wpAnyX_one (i := 12) (o := _) rfl (by kernel_rfl) (fun K hK => ?_)
      refine step_app1 (E := gateE) rfl _ _ _ rfl (w.heap.size + 1) 81 i0 _ 24 Try.underlying40 hi0 iz0 iz1 iz2 rfl _ _ L HL.out (by rfl) ((((O2.out.kp hK3 (by omega)).kp hK4 (by omega)).kp hK5 (by omega)).alloc _) w5.heap.size _ ⟨a3, a4 - 1, a5 - 1⟩ #[.int .i64 a3, .int .i64 (a4 - 1), .int .i64 (a5 - 1)] rfl (by rfl) (heap_new_at rfl) (by unfold maxLen; omega) (by omega) (by (try simp only [World.size_alloc]); omega) ?_
      intro A2 cp2 w6 hO6 hG6 hat6
      refine hK.out _ _ (fun _ => ?_) (fun hS5 => ?_)
      · exact ⟨hG6.cell hS4.1 neX, hG6.cell hS4.2 neX⟩
      clear hK K
      have hS5 := hS5 (by decide)
      try simp only [Act.put, List.setIfInBounds_toArray, List.set_cons_zero, List.set_cons_succ]
      refine wpAnyX_take (i := 13) (oi := _) (v := ?_) rfl (by kernel_rfl) (by kernel_rfl) (by kernel_rfl) (by kernel_rfl) (fun _ _ _ h => h) (Or.inl ⟨by rfl, ?_⟩) hS5 ?_
      rotate_left 1
      · (intro w hSw; (try dsimp only at hSw); go_simp; (try with_reducible rfl))
      try simp only [Act.put, List.setIfInBounds_toArray, List.set_cons_zero, List.set_cons_succ]
      refine wpAnyX_one (i := 14) (o := _) rfl (by kernel_rfl) (fun K hK => ?_)
      have PX := ((((XX.out.kp hK3 (by omega)).kp hK4 (by omega)).kp hK5 (by omega)).alloc _).grown hG6 neX
      have px0 := PX.c 0 rfl
      have px1 := PX.c 1 rfl
      have pxf := PX.f
      have pxl := PX.lt
      have PR := ((((XR2.out.kp hK3 (by omega)).kp hK4 (by omega)).kp hK5 (by omega)).alloc _).grown hG6 neR
      have pr0 := PR.c 0 rfl
      have pr1 := PR.c 1 rfl
      have prf := PR.f
      have prl := PR.lt
      go_simp
      refine hK.out _ _ (fun h => absurd rfl h) (fun _ => ?_)
      clear hK K
      try simp only [Act.put, List.setIfInBounds_toArray, List.set_cons_zero, List.set_cons_succ]
      refine wpAnyX_done (by kernel_rfl) ?_ _
      have HV6 : ∀ k, (Value.slice A2 (L + 1) cp2).ownBlock = some k → k ≠ w1.heap.size := fun k hk => by
        rcases hat6 with h8 | h8
        · rw [h8] at hk; have := HV.out _ hk; omega
        · rw [h8] at hk; simp only [Option.some.injEq, World.size_alloc] at hk; omega
      have hz6 := hG6.size
      simp only [World.size_alloc] at hz6
      go_wp2_with (fail)
      have R9 := hO6
      have K9 := ((((K2.out.trans hK3).trans hK4).trans hK5).alloc (.cells #[.int .i64 a3, .int .i64 (a4 - 1), .int .i64 (a5 - 1)] 81)).grown hG6 (fun r hr => by have := (HV.out _ hr).1; omega)
      have C9' := (hC5.alloc (.cells #[.int .i64 a3, .int .i64 (a4 - 1), .int .i64 (a5 - 1)] 81)).grown hG6 (fun r hr => by have := (HV.out _ hr).1; omega)
      refine bodyPost_ret (v := circuitV n A2 (L + 1) cp2) (by first | (simp [results, Try.results45, go_sem, *]; done) | (simp (disch := (first | omega | (simp; done) | (simp; omega))) [results, Try.results45, go_sem, *]; done) | (simp only [results, Try.results45]; go_simp; done)) rfl ⟨n, by omega, by omega, CiP.i (xs := xs ++ [⟨a3, a4 - 1, a5 - 1⟩]) (by rw [List.length_append, HL.out]; rfl) rfl (by omega) ?_ ?_ ?_⟩
      · refine Own.dn (base := (w.heap.size + 1)) ?_ (by omega)
        (repeat' (first | exact R9 | (refine Own.far ?_ (by dsimp only; omega) _) | (refine Own.off ?_ (fun e => by have h8 := HV6 _ e.symm; dsimp only at h8; omega) _)))
      · have C9 := C9'.mono (M' := M + 80) (by omega)
        (repeat' (first | (with_reducible exact C9) | (with_reducible refine Cu.alloc ?_ _) | (with_reducible refine Cu.drew ?_) | (with_reducible refine Cu.set ?_ (by omega))))
      · (repeat' (first | (with_reducible exact K9) | (with_reducible refine Kp.alloc ?_ _) | (with_reducible refine Kp.drew ?_) | (with_reducible refine Kp.setNew ?_ (by omega))))
    · have v0 : (v == 0) = false := by simpa using h0
      have v1 : (v == 1) = false := by simpa using h1
      go_wp2_with (fail)
      have R9 := O2.out
      have K9 := K2.out
      have C9' := C2.out
      refine bodyPost_ret (v := circuitV n B L cq) (by first | (simp [results, Try.results45, go_sem, *]; done) | (simp (disch := (first | omega | (simp; done) | (simp; omega))) [results, Try.results45, go_sem, *]; done) | (simp only [results, Try.results45]; go_simp; done)) rfl ⟨n, by omega, by omega, CiP.i (xs := xs) HL.out rfl (by omega) ?_ ?_ ?_⟩
      · refine Own.dn (base := (w.heap.size + 1)) ?_ (by omega)
        (repeat' (first | exact R9 | (refine Own.far ?_ (by dsimp only; omega) _) | (refine Own.off ?_ (fun e => by have h8 := HV.out _ e.symm; dsimp only at h8; omega) _)))
      · have C9 := C9'.mono (M' := M + 80) (by omega)
        (repeat' (first | (with_reducible exact C9) | (with_reducible refine Cu.alloc ?_ _) | (with_reducible refine Cu.drew ?_) | (with_reducible refine Cu.set ?_ (by omega))))
      · (repeat' (first | (with_reducible exact K9) | (with_reducible refine Kp.alloc ?_ _) | (with_reducible refine Kp.drew ?_) | (with_reducible refine Kp.setNew ?_ (by omega))))

end Go.Proofs.Ytdbnjoeanoiifaa
