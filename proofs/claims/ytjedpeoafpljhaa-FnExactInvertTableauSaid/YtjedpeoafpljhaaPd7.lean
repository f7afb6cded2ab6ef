/- Commute. -/
import Derived.Test.YtjedpeoafpljhaaPc
import Derived.Test.YtjedpeoafpljhaaPj
namespace Go.Proofs.Ytjedpeoafpljhaa.C4
open Go.RowKit
set_option linter.unusedVariables false
set_option linter.unusedSimpArgs false
attribute [local irreducible] World.setCell

set_option maxRecDepth 100000 in
set_option maxHeartbeats 4000000 in
theorem l7c {pa xa za pb xb zb : Nat} (hpa : pa ≤ 100) (hpb : pb ≤ 100) (h1 : xa < 32) (h2 : za < 32) (h3 : xb < 32) (h4 : zb < 32) {t : Bool} (h : (!acB xa za xb zb) = t) (w : World) :
    Calls Try.prog 145 #[pA pa xa za, pA pb xb zb] w fun ee w' => ee = .returned (.bool t) ∧ Below w.heap.size w w' := by
  obtain ⟨q1, hq1⟩ : ∃ q, q = mp pa xa za pb xb zb := ⟨_, rfl⟩
  obtain ⟨q2, hq2⟩ : ∃ q, q = mp pb xb zb pa xa za := ⟨_, rfl⟩
  obtain ⟨X, hX⟩ : ∃ X, X = xa ^^^ xb := ⟨_, rfl⟩
  obtain ⟨Z, hZ⟩ : ∃ Z, Z = za ^^^ zb := ⟨_, rfl⟩
  have HM1 : Hid ((mulV pa xa za pb xb zb).v = pA q1 X Z) := by show (pv _ _ _).v = (pv q1 X Z).v; rw [hq1, hX, hZ]
  have HM2 : Hid ((mulV pb xb zb pa xa za).v = pA q2 X Z) := by show (pv _ (xb ^^^ xa) (zb ^^^ za)).v = (pv q2 X Z).v; rw [hq2, hX, hZ, Nat.xor_comm xa, Nat.xor_comm za]
  have HD : Hid (decide ((q1 : Int) = (q2 : Int)) = t) := by
    show decide ((q1 : Int) = (q2 : Int)) = t
    rw [← h, ← ac_mp pa xa za pb xb zb, ← hq1, ← hq2]
    by_cases e : q1 = q2
    · rw [decide_eq_true e, decide_eq_true (by omega)]
    · rw [decide_eq_false e, decide_eq_false (by omega)]
  clear h hq1 hq2 hX hZ
  go_enter Try.func145, Try.ntmps145
  go_upto_region 1 with (fail)
  obtain ⟨w1, hW⟩ : ∃ W : World, W = (w.alloc (.cells #[.int .i64 (pa : Int), .int .i64 (xa : Int), .int .i64 (za : Int)] 43)).alloc (.cells #[.int .i64 (pb : Int), .int .i64 (xb : Int), .int .i64 (zb : Int)] 43) := ⟨_, rfl⟩
  have hB1 : Below w.heap.size w w1 := by rw [hW]; (repeat' (first | (with_reducible exact Below.refl _ _) | (with_reducible assumption) | (with_reducible refine Below.alloc ?_ ?_ _) | (with_reducible refine Below.drew ?_) | (with_reducible refine bdN ?_ _) | (with_reducible refine Below.setCell ?_ ?_ _) | (with_reducible refine chn ?_ (by assumption) ?_) | omega | (simp; done) | (simp; omega)))
  have Xa : Bb w1 (w.heap.size) 43 #[.int .i64 (pa : Int), .int .i64 (xa : Int), .int .i64 (za : Int)] := by rw [hW]; (repeat' (first | (with_reducible assumption) | (refine Bb.new (by first | (with_reducible rfl) | (simp; done))) | (with_reducible refine Bb.alloc ?_ _) | (with_reducible refine Bb.drew ?_) | (with_reducible refine Bb.drewN ?_ _) | (with_reducible refine Bb.mono ?_ (by assumption)) | (with_reducible refine Bb.far ?_ (by (try simp only [World.size_alloc, World.size_drew]); omega)) | (with_reducible refine Bb.set ?_ rfl) | (with_reducible refine Bb.grown ?_ (by assumption) (by assumption))))
  have Xb : Bb w1 (w.heap.size + 1) 43 #[.int .i64 (pb : Int), .int .i64 (xb : Int), .int .i64 (zb : Int)] := by rw [hW]; (repeat' (first | (with_reducible assumption) | (refine Bb.new (by first | (with_reducible rfl) | (simp; done))) | (with_reducible refine Bb.alloc ?_ _) | (with_reducible refine Bb.drew ?_) | (with_reducible refine Bb.drewN ?_ _) | (with_reducible refine Bb.mono ?_ (by assumption)) | (with_reducible refine Bb.far ?_ (by (try simp only [World.size_alloc, World.size_drew]); omega)) | (with_reducible refine Bb.set ?_ rfl) | (with_reducible refine Bb.grown ?_ (by assumption) (by assumption))))
  rw [← hW]
  clear hW
  have ca0 := Xa.c 0 rfl
  have ca1 := Xa.c 1 rfl
  have ca2 := Xa.c 2 rfl
  have cb0 := Xb.c 0 rfl
  have cb1 := Xb.c 1 rfl
  have cb2 := Xb.c 2 rfl
  have yca0 : w1.drew.cell? ⟨w.heap.size, 0, none⟩ = some (.int .i64 (pa : Int)) := ca0
  have yca1 : w1.drew.cell? ⟨w.heap.size, 1, none⟩ = some (.int .i64 (xa : Int)) := ca1
  have yca2 : w1.drew.cell? ⟨w.heap.size, 2, none⟩ = some (.int .i64 (za : Int)) := ca2
  have ycb0 : w1.drew.cell? ⟨w.heap.size + 1, 0, none⟩ = some (.int .i64 (pb : Int)) := cb0
  have ycb1 : w1.drew.cell? ⟨w.heap.size + 1, 1, none⟩ = some (.int .i64 (xb : Int)) := cb1
  have ycb2 : w1.drew.cell? ⟨w.heap.size + 1, 2, none⟩ = some (.int .i64 (zb : Int)) := cb2
  refine wp_region_x (fun w' => w'.cell? ⟨w.heap.size, 0, none⟩ = some (.int .i64 (pa : Int)) ∧ w'.cell? ⟨w.heap.size, 1, none⟩ = some (.int .i64 (xa : Int)) ∧ w'.cell? ⟨w.heap.size, 2, none⟩ = some (.int .i64 (za : Int)) ∧ w'.cell? ⟨w.heap.size + 1, 0, none⟩ = some (.int .i64 (pb : Int)) ∧ w'.cell? ⟨w.heap.size + 1, 1, none⟩ = some (.int .i64 (xb : Int)) ∧ w'.cell? ⟨w.heap.size + 1, 2, none⟩ = some (.int .i64 (zb : Int))) 1000 (by kernel_rfl) ⟨yca0, yca1, yca2, ycb0, ycb1, ycb2⟩ (fun hS0 => ?_)
  refine wpAnyX_take (i := 0) (oi := _) (v := ?_) rfl (by kernel_rfl) (by kernel_rfl) (by kernel_rfl) (by kernel_rfl) (fun _ _ _ h => h) (Or.inl ⟨by rfl, ?_⟩) hS0 ?_
  rotate_left 1
  · (intro w hSw; (try dsimp only at hSw); go_simp; (try with_reducible rfl))
  try simp only [Act.put, List.setIfInBounds_toArray, List.set_cons_zero, List.set_cons_succ]
  refine wpAnyX_take (i := 1) (oi := _) (v := ?_) rfl (by kernel_rfl) (by kernel_rfl) (by kernel_rfl) (by kernel_rfl) (fun _ _ _ h => h) (Or.inl ⟨by rfl, ?_⟩) hS0 ?_
  rotate_left 1
  · (intro w hSw; (try dsimp only at hSw); go_simp; (try with_reducible rfl))
  try simp only [Act.put, List.setIfInBounds_toArray, List.set_cons_zero, List.set_cons_succ]
  refine wpAnyX_take (i := 3) (oi := _) (v := ?_) rfl (by kernel_rfl) (by kernel_rfl) (by kernel_rfl) (by kernel_rfl) (fun _ _ _ h => h) (Or.inl ⟨by rfl, ?_⟩) hS0 ?_
  rotate_left 1
  · (intro w hSw; (try dsimp only at hSw); go_simp; (try with_reducible rfl))
  try simp only [Act.put, List.setIfInBounds_toArray, List.set_cons_zero, List.set_cons_succ]
  refine wpAnyX_take (i := 4) (oi := _) (v := ?_) rfl (by kernel_rfl) (by kernel_rfl) (by kernel_rfl) (by kernel_rfl) (fun _ _ _ h => h) (Or.inl ⟨by rfl, ?_⟩) hS0 ?_
  rotate_left 1
  · (intro w hSw; (try dsimp only at hSw); go_simp; (try with_reducible rfl))
  try simp only [Act.put, List.setIfInBounds_toArray, List.set_cons_zero, List.set_cons_succ]
  refine wpAnyX_one (i := 2) (o := _) rfl (by kernel_rfl) (fun K hK => ?_)
  go_simp
  refine (l7m hpa hpb h1 h2 h3 h4 _).mono ?_
  rintro ee w8 ⟨rfl, hb8⟩
  rw [HM1.out]
  refine hK.out _ _ (fun _ => ?_) (fun hS1 => ?_)
  · exact ⟨kcl hb8 (hS0.1), kcl hb8 (hS0.2.1), kcl hb8 (hS0.2.2.1), kcl hb8 (hS0.2.2.2.1), kcl hb8 (hS0.2.2.2.2.1), kcl hb8 (hS0.2.2.2.2.2)⟩
  clear hK K
  have hS1 := hS1 (by decide)
  try simp only [Act.put, List.setIfInBounds_toArray, List.set_cons_zero, List.set_cons_succ]
  refine wpAnyX_one (i := 5) (o := _) rfl (by kernel_rfl) (fun K hK => ?_)
  go_simp
  refine (l7m hpb hpa h3 h4 h1 h2 _).mono ?_
  rintro ee w9 ⟨rfl, hb9⟩
  rw [HM2.out]
  refine hK.out _ _ (fun _ => ?_) (fun hS2 => ?_)
  · exact ⟨kcl hb9 (hS1.1), kcl hb9 (hS1.2.1), kcl hb9 (hS1.2.2.1), kcl hb9 (hS1.2.2.2.1), kcl hb9 (hS1.2.2.2.2.1), kcl hb9 (hS1.2.2.2.2.2)⟩
  clear hK K
  have hS2 := hS2 (by decide)
  try simp only [Act.put, List.setIfInBounds_toArray, List.set_cons_zero, List.set_cons_succ]
  refine wpAnyX_take (i := 6) (oi := _) (v := .bool t) rfl (by kernel_rfl) (by kernel_rfl) (by kernel_rfl) (by kernel_rfl) (fun _ _ _ h => h) (Or.inl ⟨by rfl, ?_⟩) hS2 ?_
  · (intro w hSw; (try dsimp only at hSw); go_simp; (by_cases e9 : ((q1 : Int) = (q2 : Int)); (rw [if_pos e9, ← HD.out, decide_eq_true e9]); (rw [if_neg e9, ← HD.out, decide_eq_false e9])))
  change wpAnyX _ _ _ _ _ _ _ _ (Act.put _ (some 11) _) _
  try simp only [Act.put, List.setIfInBounds_toArray, List.set_cons_zero, List.set_cons_succ]
  refine wpAnyX_take (i := 7) (oi := _) (v := ?_) rfl (by kernel_rfl) (by kernel_rfl) (by kernel_rfl) (by kernel_rfl) (fun _ _ _ h => h) (Or.inl ⟨by rfl, ?_⟩) hS2 ?_
  rotate_left 1
  · (intro w hSw; (try dsimp only at hSw); go_simp; (try with_reducible rfl))
  change wpAnyX _ _ _ _ _ _ _ _ (Act.put _ (some 4) _) _
  try simp only [Act.put, List.setIfInBounds_toArray, List.set_cons_zero, List.set_cons_succ]
  refine wpAnyX_done (by kernel_rfl) ?_ _
  go_wp2_with (fail)
  go_ret
  refine ⟨rfl, ?_⟩
  have k8 : Below w1.heap.size w1 w8 := ⟨hb8.os, hb8.tape, hb8.output, hb8.size, hb8.block⟩
  exact chn hB1 (chn k8 hb9 k8.size) hB1.size

end Go.Proofs.Ytjedpeoafpljhaa.C4
