/- The model's copy of a circuit. -/
import Derived.Test.YtdbnjoeanoiifaaGv
import Derived.Test.YtdbnjoeanoiifaaKap
import Derived.Test.YtdbnjoeanoiifaaRgx
namespace Go.Proofs.Ytdbnjoeanoiifaa
open Go.RowKit
set_option linter.unusedVariables false
set_option linter.unusedSimpArgs false
attribute [local irreducible] World.setCell

/-- a slice of the call's own that may be appended to is the circuit's -/
def OwnC (q : Int) (L : List GateV) (w : World) (ee : Ending) (w' : World) : Prop := ∃ (A : Option Addr) (cp : Nat), ee = .returned (circuitV q A L.length cp) ∧ Own gateE w' w.heap.size 81 (.slice A L.length cp) L ∧ Below w.heap.size w w'
theorem OwnC.i {q : Int} {L : List GateV} {w w' : World} {ee : Ending} {A : Option Addr} {k cp : Nat} (hk : L.length = k) (he : ee = .returned (circuitV q A k cp)) (hO : Own gateE w' w.heap.size 81 (.slice A k cp) L) (hb : Below w.heap.size w w') : OwnC q L w ee w' := ⟨A, cp, by rw [hk]; exact he, by rw [hk]; exact hO, hb⟩
set_option maxRecDepth 100000 in
set_option maxHeartbeats 4000000 in
theorem lown {a0 : Int} {Ag : Option Addr} {n1 c1 : Nat} {xs : List GateV} {w : World} (hA : Rd gateE w Ag xs) (hPA : Pl Ag n1 c1) (hn : xs.length = n1) (hl : n1 ≤ 400) :
    Calls Try.prog 52 #[circuitV a0 Ag n1 c1] w fun ee w' => OwnC a0 xs w ee w' := by
  have HPA := lay hPA
  clear hPA
  obtain ⟨i0, hi0, iz0, iz1, iz2⟩ := info_parts infoGate
  have HA := lay hA
  have HN := lay hn
  have hmax : 0 + n1 ≤ maxLen := by unfold maxLen; omega
  have hby : (0 + n1) * 24 ≤ 140737488355328 := by omega
  have hn1 : 0 + n1 = n1 := by omega
  have HE := lay hn1
  clear hA hn hn1
  go_enter Try.func52, Try.ntmps52
  go_wp2_with (fail)
  have k0 : ((w.alloc (.cells #[.int .i64 a0, .slice Ag n1 c1] 42)).alloc (.cells #[.int .i64 0, .slice none 0 0] 42)).cell? ⟨w.heap.size, 0, none⟩ = some (.int .i64 a0) := by simp
  have k1 : ((w.alloc (.cells #[.int .i64 a0, .slice Ag n1 c1] 42)).alloc (.cells #[.int .i64 0, .slice none 0 0] 42)).cell? ⟨w.heap.size, 1, none⟩ = some (.slice Ag n1 c1) := by simp
  have hRz : Bb ((w.alloc (.cells #[.int .i64 a0, .slice Ag n1 c1] 42)).alloc (.cells #[.int .i64 0, .slice none 0 0] 42)) (w.heap.size + 1) 42 #[.int .i64 0, .slice none 0 0] := by (repeat' (first | (with_reducible assumption) | (refine Bb.new (by first | (with_reducible rfl) | (simp; done))) | (with_reducible refine Bb.alloc ?_ _) | (with_reducible refine Bb.drew ?_) | (with_reducible refine Bb.drewN ?_ _) | (with_reducible refine Bb.mono ?_ (by assumption)) | (with_reducible refine Bb.far ?_ (by (try simp only [World.size_alloc, World.size_drew]); omega)) | (with_reducible refine Bb.set ?_ rfl) | (with_reducible refine Bb.grown ?_ (by assumption) (by assumption))))
  have hWb : Below w.heap.size w ((w.alloc (.cells #[.int .i64 a0, .slice Ag n1 c1] 42)).alloc (.cells #[.int .i64 0, .slice none 0 0] 42)) := by (repeat' (first | (with_reducible exact Below.refl _ _) | (with_reducible assumption) | (with_reducible refine Below.alloc ?_ ?_ _) | (with_reducible refine Below.drew ?_) | (with_reducible refine bdN ?_ _) | (with_reducible refine Below.setCell ?_ ?_ _) | (with_reducible refine chn ?_ (by assumption) ?_) | omega | (simp; done) | (simp; omega)))
  have hsz : ((w.alloc (.cells #[.int .i64 a0, .slice Ag n1 c1] 42)).alloc (.cells #[.int .i64 0, .slice none 0 0] 42)).heap.size = w.heap.size + 1 + 1 := by simp
  obtain ⟨W, hW⟩ : ∃ W, W = ((w.alloc (.cells #[.int .i64 a0, .slice Ag n1 c1] 42)).alloc (.cells #[.int .i64 0, .slice none 0 0] 42)) := ⟨_, rfl⟩
  rw [← hW] at k0 k1 hRz hWb hsz ⊢
  clear hW
  have HZ := lay hRz
  have HS := lay hsz
  have hs1 : w.heap.size + 1 + 1 ≤ W.heap.size := by omega
  clear hRz hsz
  have yk0 : W.drew.cell? ⟨w.heap.size, 0, none⟩ = some (.int .i64 a0) := k0
  have yk1 : W.drew.cell? ⟨w.heap.size, 1, none⟩ = some (.slice Ag n1 c1) := k1
  refine wp_region_x (fun w' => w'.cell? ⟨w.heap.size, 0, none⟩ = some (.int .i64 a0) ∧ w'.cell? ⟨w.heap.size, 1, none⟩ = some (.slice Ag n1 c1)) 7 (by kernel_rfl) ⟨yk0, yk1⟩ (fun hS0 => ?_)
  refine wpAnyX_take (i := 0) (oi := _) (v := ?_) rfl (by kernel_rfl) (by kernel_rfl) (by kernel_rfl) (by kernel_rfl) (fun _ _ _ h => h) (Or.inl ⟨by rfl, ?_⟩) hS0 ?_
  rotate_left 1
  · (intro w hSw; (try dsimp only at hSw); go_simp; (try with_reducible rfl))
  try simp only [Act.put, List.setIfInBounds_toArray, List.set_cons_zero, List.set_cons_succ]
  refine wpAnyX_take (i := 1) (oi := _) (v := ?_) rfl (by kernel_rfl) (by kernel_rfl) (by kernel_rfl) (by kernel_rfl) (fun _ _ _ h => h) (Or.inl ⟨by rfl, ?_⟩) hS0 ?_
  rotate_left 1
  · (intro w hSw; (try dsimp only at hSw); go_simp; (try with_reducible rfl))
  try simp only [Act.put, List.setIfInBounds_toArray, List.set_cons_zero, List.set_cons_succ]
  refine wpAnyX_take (i := 3) (oi := _) (v := ?_) rfl (by kernel_rfl) (by kernel_rfl) (by kernel_rfl) (by kernel_rfl) (fun _ _ _ h => h) (Or.inl ⟨by rfl, ?_⟩) hS0 ?_
  rotate_left 1
  · (intro w hSw; (try dsimp only at hSw); go_simp; (try with_reducible rfl))
  try simp only [Act.put, List.setIfInBounds_toArray, List.set_cons_zero, List.set_cons_succ]
  refine wpAnyX_take (i := 4) (oi := _) (v := ?_) rfl (by kernel_rfl) (by kernel_rfl) (by kernel_rfl) (by kernel_rfl) (fun _ _ _ h => h) (Or.inl ⟨by rfl, ?_⟩) hS0 ?_
  rotate_left 1
  · (intro w hSw; (try dsimp only at hSw); go_simp; (try with_reducible rfl))
  try simp only [Act.put, List.setIfInBounds_toArray, List.set_cons_zero, List.set_cons_succ]
  refine wpAnyX_one (i := 2) (o := _) rfl (by kernel_rfl) (fun K hK => ?_)
  go_simp
  refine hK.out _ _ (fun _ => ?_) (fun hS1 => ?_)
  · first | exact ⟨kclAl (hS0.1), kclAl (hS0.2)⟩ | exact ⟨kclAld (hS0.1), kclAld (hS0.2)⟩
  clear hK K
  have hS1 := hS1 (by decide)
  try simp only [Act.put, List.setIfInBounds_toArray, List.set_cons_zero, List.set_cons_succ]
  refine wpAnyX_one (i := 5) (o := _) rfl (by kernel_rfl) (fun K hK => ?_)
  refine step_appO (E := gateE) rfl _ _ _ (by rfl) (w.heap.size + 1 + 1) 81 i0 _ 24 Try.underlying40 hi0 iz0 iz1 iz2 rfl _ _ 0 rfl (by rfl) (by first | exact (Own.made rfl hs1 (by decide) rfl) | exact (Own.made rfl hs1 (by decide) rfl).drew) Ag n1 c1 xs HPA.out HN.out (by rfl) (by exact HA.out.mono (by (repeat' (first | (with_reducible exact Below.refl _ _) | (with_reducible assumption) | (with_reducible refine Below.alloc ?_ ?_ _) | (with_reducible refine Below.drew ?_) | (with_reducible refine bdN ?_ _) | (with_reducible refine Below.setCell ?_ ?_ _) | (with_reducible refine chn ?_ (by assumption) ?_) | omega | (simp; done) | (simp; omega))))) hmax hby (by (try simp only [World.size_alloc, World.size_drew]); omega) ?_
  intro A2 cp2 w9 hO9 hG9 hat9
  have ne0 : some w.heap.size ≠ (Value.slice (some (⟨W.heap.size, 0, none⟩ : Addr)) 0 0).ownBlock := by simp [Value.ownBlock]; omega
  have ne1 : some (w.heap.size + 1) ≠ (Value.slice (some (⟨W.heap.size, 0, none⟩ : Addr)) 0 0).ownBlock := by simp [Value.ownBlock]; omega
  have Z9 := ((HZ.out.drew).alloc (.cells #[] 81)).grown hG9 ne1
  have hB9 : Below w.heap.size w w9 := Below.grown (hWb.drew.alloc (by simp only [World.size_drew]; omega) _) hG9 (by (try simp only [World.size_alloc, World.size_drew]); omega) (fun k e => by have h : some W.heap.size = some k := e; cases h; omega)
  refine hK.out _ _ (fun _ => ?_) (fun hS2 => ?_)
  · exact ⟨hG9.cell (hS1.1) ne0, hG9.cell (hS1.2) ne0⟩
  clear hK K
  have hS2 := hS2 (by decide)
  try simp only [Act.put, List.setIfInBounds_toArray, List.set_cons_zero, List.set_cons_succ]
  refine wpAnyX_take (i := 6) (oi := _) (v := ?_) rfl (by kernel_rfl) (by kernel_rfl) (by kernel_rfl) (by kernel_rfl) (fun _ _ _ h => h) (Or.inl ⟨by rfl, ?_⟩) hS2 ?_
  rotate_left 1
  · (intro w hSw; (try dsimp only at hSw); go_simp; (try with_reducible rfl))
  try simp only [Act.put, List.setIfInBounds_toArray, List.set_cons_zero, List.set_cons_succ]
  refine wpAnyX_one (i := 7) (o := _) rfl (by kernel_rfl) (fun K hK => ?_)
  have z0 := Z9.c 0 rfl
  have z1 := Z9.c 1 rfl
  have zf := Z9.f
  have zl := Z9.lt
  go_simp
  refine hK.out _ _ (fun h => absurd rfl h) (fun _ => ?_)
  clear hK K
  try simp only [Act.put, List.setIfInBounds_toArray, List.set_cons_zero, List.set_cons_succ]
  refine wpAnyX_done (by kernel_rfl) ?_ _
  have z0 := Z9.c 0 rfl
  have z1 := Z9.c 1 rfl
  have zf := Z9.f
  have zl := Z9.lt
  go_wp2_with (fail)
  refine bodyPost_ret (v := circuitV a0 A2 n1 cp2) (by first | (simp [results, Try.results52, go_sem, *]; done) | (simp (disch := (first | omega | (simp; done) | (simp; omega))) [results, Try.results52, go_sem, *]; done) | (simp only [results, Try.results52]; go_simp; done)) rfl (OwnC.i HN.out rfl ?_ ?_)
  · rw [HE.out, List.nil_append] at hO9
    refine Own.dn (base := w.heap.size + 1 + 1) ?_ (by omega)
    (repeat' (first | (with_reducible assumption) | (with_reducible refine Own.drew ?_) | (with_reducible refine Own.alloc ?_ _) | (refine Own.far ?_ (by dsimp only; omega) _)))
  · (repeat' (first | (with_reducible exact Below.refl _ _) | (with_reducible assumption) | (with_reducible refine Below.alloc ?_ ?_ _) | (with_reducible refine Below.drew ?_) | (with_reducible refine bdN ?_ _) | (with_reducible refine Below.setCell ?_ ?_ _) | (with_reducible refine chn ?_ (by assumption) ?_) | omega | (simp; done) | (simp; omega)))

end Go.Proofs.Ytdbnjoeanoiifaa
