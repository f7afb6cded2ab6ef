/- The model's identity tableau. -/
import Derived.Test.YtjedpeoafpljhaaPid
namespace Go.Proofs.Ytjedpeoafpljhaa.C4
open Go.RowKit
set_option linter.unusedVariables false
set_option linter.unusedSimpArgs false
attribute [local irreducible] World.setCell

theorem Ow2.dn {W : World} {B B' : Nat} {vx vz : Value} {xs zs : List PauliV} (h : Ow2 W B vx vz xs zs) (hb : B' ≤ B) : Ow2 W B' vx vz xs zs := ⟨h.1.dn hb, h.2.1.dn hb, h.2.2⟩
theorem Ow2.neX {W : World} {B k : Nat} {vx vz : Value} {xs zs : List PauliV} (h : Ow2 W B vx vz xs zs) (hk : k < B) : some k ≠ vx.ownBlock := fun e => by have := (h.1.lt _ e.symm).1; omega
theorem Ow2.neZ {W : World} {B k : Nat} {vx vz : Value} {xs zs : List PauliV} (h : Ow2 W B vx vz xs zs) (hk : k < B) : some k ≠ vz.ownBlock := fun e => by have := (h.2.1.lt _ e.symm).1; omega
set_option maxRecDepth 100000 in
set_option maxHeartbeats 8000000 in
theorem l7id {n : Nat} (q1 : 1 ≤ n) (q5 : n ≤ 5) (w : World) :
    Calls Try.prog 112 #[.int .i64 (n : Int)] w fun ee w' => ∃ vx vz : Value, ee = .returned (.agg #[.int .i64 (n : Int), vx, vz]) ∧ Ow2 w' w.heap.size vx vz (tab n genX) (tab n genZ) ∧ Below w.heap.size w w' := by
  obtain ⟨i0, hi0, iz0, iz1, iz2⟩ := info_parts infoPauli
  go_enter Try.func112, Try.ntmps112
  go_wp2_with (fail)
  go_loopg [4] n (fun k s4 wr => ∃ (j : Nat) (A1 : Option Addr) (c1 : Nat) (A2 : Option Addr) (c2 : Nat), j + k = n ∧ s4 = .int .i64 (j : Int) ∧ Hid (Bb wr (w.heap.size + 1) 53 #[.int .i64 (n : Int), .slice A1 j c1, .slice A2 j c2]) ∧ Hid (Ow2 wr (w.heap.size + 1 + 1) (.slice A1 j c1) (.slice A2 j c2) (tab j genX) (tab j genZ)) ∧ Hid (Bb wr (w.heap.size) 53 #[.int .i64 0, .slice none 0 0, .slice none 0 0]) ∧ w.heap.size + 1 + 1 ≤ wr.heap.size ∧ Below w.heap.size w wr)
  case atStart => exact ⟨0, none, 0, none, 0, by omega, rfl, by (show Bb _ _ _ _; (repeat' (first | (with_reducible assumption) | (refine Bb.new (by first | (with_reducible rfl) | (simp; done))) | (with_reducible refine Bb.alloc ?_ _) | (with_reducible refine Bb.drew ?_) | (with_reducible refine Bb.drewN ?_ _) | (with_reducible refine Bb.mono ?_ (by assumption)) | (with_reducible refine Bb.far ?_ (by (try simp only [World.size_alloc, World.size_drew]); omega)) | (with_reducible refine Bb.set ?_ rfl) | (with_reducible refine Bb.grown ?_ (by assumption) (by assumption))))), ⟨Own.nil _ _ _, Own.nil _ _ _, fun b hb => by cases hb⟩, by (show Bb _ _ _ _; (repeat' (first | (with_reducible assumption) | (refine Bb.new (by first | (with_reducible rfl) | (simp; done))) | (with_reducible refine Bb.alloc ?_ _) | (with_reducible refine Bb.drew ?_) | (with_reducible refine Bb.drewN ?_ _) | (with_reducible refine Bb.mono ?_ (by assumption)) | (with_reducible refine Bb.far ?_ (by (try simp only [World.size_alloc, World.size_drew]); omega)) | (with_reducible refine Bb.set ?_ rfl) | (with_reducible refine Bb.grown ?_ (by assumption) (by assumption))))), by simp, by (repeat' (first | (with_reducible exact Below.refl _ _) | (with_reducible assumption) | (with_reducible refine Below.alloc ?_ ?_ _) | (with_reducible refine Below.drew ?_) | (with_reducible refine bdN ?_ _) | (with_reducible refine Below.setCell ?_ ?_ _) | (with_reducible refine chn ?_ (by assumption) ?_) | omega | (simp; done) | (simp; omega)))⟩
  case round =>
    obtain ⟨j, A1, c1, A2, c2, hj, rfl, XO, HO, XR, hsz, hB⟩ := hrel
    have co0 := XO.out.c 0 rfl
    have co1 := XO.out.c 1 rfl
    have co2 := XO.out.c 2 rfl
    have lo := XO.out.lt
    have fo := XO.out.f
    have cr0 := XR.out.c 0 rfl
    have cr1 := XR.out.c 1 rfl
    have cr2 := XR.out.c 2 rfl
    have fr := XR.out.f
    have hBs := hB.size
    cases gk with
    | zero =>
      obtain rfl : n = j := by omega
      go_wp2_with (fail)
      refine bodyPost_ret (v := .agg #[.int .i64 (n : Int), .slice A1 n c1, .slice A2 n c2]) (by first | (simp [results, Try.results112, go_sem, *]; done) | (simp (disch := (first | omega | (simp; done) | (simp; omega))) [results, Try.results112, go_sem, *]; done) | (simp only [results, Try.results112]; go_simp; done)) rfl ⟨_, _, rfl, ?_, ?_⟩
      · exact (((HO.out.far (by show w.heap.size < _; omega) _).far (by show w.heap.size < _; omega) _).far (by show w.heap.size < _; omega) _).dn (by omega)
      · (repeat' (first | (with_reducible exact Below.refl _ _) | (with_reducible assumption) | (with_reducible refine Below.alloc ?_ ?_ _) | (with_reducible refine Below.drew ?_) | (with_reducible refine bdN ?_ _) | (with_reducible refine Below.setCell ?_ ?_ _) | (with_reducible refine chn ?_ (by assumption) ?_) | omega | (simp; done) | (simp; omega)))
    | succ m =>
      have hlt : j < n := by omega
      have jl : (j : Int) < (n : Int) := by omega
      have e1 := pw_w (show j ≤ 5 by omega)
      have e2 := pw_k (show j ≤ 5 by omega)
      have hmax : j + 1 ≤ maxLen := by unfold maxLen; omega
      have hby : (j + 1) * 24 ≤ 140737488355328 := by omega
      go_upto_region 6 with (first | ((at_builtin; refine wpList_app1 (E := pauliE) rfl _ _ _ rfl (w.heap.size + 1 + 1) 43 i0 _ 24 Try.underlying51 hi0 iz0 iz1 iz2 rfl _ _ j (tab_len _ _) (by rfl) (HO.out.1.alloc _) _ _ (genX j) #[.int .i64 0, .int .i64 ((pw j : Nat) : Int), .int .i64 0] rfl (by rfl) (heap_alloc_new _ _) hmax hby (by simp only [World.size_alloc]; omega) ?_; intro A9 cp9 w9 hO9 hG9 hat9); have Q9 := (XO.out.alloc _).grown hG9 (HO.out.neX (by omega)); have q90 := Q9.c 0 rfl; have q91 := Q9.c 1 rfl; have q92 := Q9.c 2 rfl; have q9l := Q9.lt; have q9f := Q9.f) | fail)
      have hz9 := hG9.size
      simp only [World.size_alloc] at hz9
      have HO9 : Ow2 w9 (w.heap.size + 1 + 1) (.slice A9 (j + 1) cp9) (.slice A2 j c2) (tab (j + 1) genX) (tab j genZ) := by rw [tab_succ]; exact Ow2.appX (HO.out.alloc _) hO9 hG9 hat9
      have XO9 := (XO.out.alloc _).grown hG9 (HO.out.neX (by omega))
      have XR9 := (XR.out.alloc _).grown hG9 (HO.out.neX (by omega))
      have hB9 : Below w.heap.size w w9 := Below.grown (hB.alloc (by omega) _) hG9 (by simp only [World.size_alloc]; omega) (fun r hr => by have := (HO.out.1.lt r hr).1; omega)
      clear hO9 hG9 hat9 co0 co1 co2 lo fo cr0 cr1 cr2 fr
      have H9 := lay HO9
      have X9 := lay XO9
      have R9 := lay XR9
      clear HO9 XO9 XR9 HO XO XR Q9 q90 q91 q92 q9l q9f
      obtain ⟨w3, hw3⟩ : ∃ W, W = w9.setCell ⟨w.heap.size + 1, 1, none⟩ (.slice A9 (j + 1) cp9) := ⟨_, rfl⟩
      have HO3 : Ow2 w3 (w.heap.size + 1 + 1) (.slice A9 (j + 1) cp9) (.slice A2 j c2) (tab (j + 1) genX) (tab j genZ) := by rw [hw3]; exact H9.out.far (by show w.heap.size + 1 < _; omega) _
      have XO3 : Bb w3 (w.heap.size + 1) 53 #[.int .i64 (n : Int), .slice A9 (j + 1) cp9, .slice A2 j c2] := by rw [hw3]; exact X9.out.set rfl
      have XR3 : Bb w3 (w.heap.size) 53 #[.int .i64 0, .slice none 0 0, .slice none 0 0] := by rw [hw3]; exact R9.out.far (by omega)
      have hB3 : Below w.heap.size w w3 := by rw [hw3]; exact Below.setCell hB9 (by show w.heap.size ≤ w.heap.size + 1; omega) _
      have hz3l : w.heap.size + 1 + 1 ≤ w3.heap.size := by rw [hw3, World.size_setCell]; omega
      rw [← hw3]
      clear hw3 H9 X9 R9
      have co0 := XO3.c 0 rfl
      have co1 := XO3.c 1 rfl
      have co2 := XO3.c 2 rfl
      have lo := XO3.lt
      go_wp2_with (first | ((at_builtin; refine wpList_app1 (E := pauliE) rfl _ _ _ rfl (w.heap.size + 1 + 1) 43 i0 _ 24 Try.underlying51 hi0 iz0 iz1 iz2 rfl _ _ j (tab_len _ _) (by rfl) (HO3.2.1.alloc _) _ _ (genZ j) #[.int .i64 0, .int .i64 0, .int .i64 ((pw j : Nat) : Int)] rfl (by rfl) (heap_alloc_new _ _) hmax hby (by simp only [World.size_alloc]; omega) ?_; intro A8 cp8 w8 hO8 hG8 hat8); have Q8 := (XO3.alloc _).grown hG8 (HO3.neZ (by omega)); have q80 := Q8.c 0 rfl; have q81 := Q8.c 1 rfl; have q82 := Q8.c 2 rfl; have q8l := Q8.lt; have q8f := Q8.f) | fail)
      have hz8 := hG8.size
      simp only [World.size_alloc] at hz8
      have HO8 : Ow2 w8 (w.heap.size + 1 + 1) (.slice A9 (j + 1) cp9) (.slice A8 (j + 1) cp8) (tab (j + 1) genX) (tab (j + 1) genZ) := by rw [tab_succ j genZ]; exact Ow2.appZ (HO3.alloc _) hO8 hG8 hat8
      have XO8 := (XO3.alloc _).grown hG8 (HO3.neZ (by omega))
      have XR8 := (XR3.alloc _).grown hG8 (HO3.neZ (by omega))
      have hB8 : Below w.heap.size w w8 := Below.grown (hB3.alloc (by omega) _) hG8 (by simp only [World.size_alloc]; omega) (fun r hr => by have := (HO3.2.1.lt r hr).1; omega)
      clear hO8 hG8 hat8
      have H8 := lay HO8
      have X8 := lay XO8
      have R8 := lay XR8
      clear HO8 XO8 XR8 HO3 XO3 XR3
      go_roundg m
      case measure => omega
      case rel =>
        exact ⟨j + 1, A9, cp9, A8, cp8, by omega, by go_num, X8.out.set rfl, H8.out.far (by show w.heap.size + 1 < _; omega) _, R8.out.far (by omega), by (try simp only [World.size_setCell]); omega, Below.setCell hB8 (by show w.heap.size ≤ w.heap.size + 1; omega) _⟩

end Go.Proofs.Ytjedpeoafpljhaa.C4
