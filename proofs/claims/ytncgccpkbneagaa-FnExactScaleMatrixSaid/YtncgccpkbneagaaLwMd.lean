/- The walk of the law on ScaleMatrix. -/
import Derived.Test.YtncgccpkbneagaaVm2
import Derived.Test.YtncgccpkbneagaaZtab
import Derived.Test.YtncgccpkbneagaaZdy
namespace Go.Proofs.Ytncgccpkbneagaa
open Go.RowKit RM
set_option linter.unusedVariables false
set_option linter.unusedSimpArgs false
attribute [local irreducible] World.setCell

theorem Ow.al {W : World} {B : Nat} {t : TypeId} {A : Option Addr} {xs : List D5} (h : Ow W B t A xs) (o : Obj) : Ow (W.alloc o) B t A xs := h.mono ((Below.refl _ _).alloc (Nat.le_refl _) _)
theorem Ow.far {W : World} {B : Nat} {t : TypeId} {A : Option Addr} {xs : List D5} (h : Ow W B t A xs) {p : Addr} (hp : ∀ a, A = some a → a.block ≠ p.block) (u : Value) : Ow (W.setCell p u) B t A xs := by
  rcases h with h | ⟨g, rfl, h1, h2⟩
  · exact Or.inl h
  · exact Or.inr ⟨g, rfl, h1, h2.far (hp _ rfl) u⟩

set_option maxRecDepth 100000 in
set_option maxHeartbeats 16000000 in
theorem lwScaleMatrix {r c : Int} {A : Option Addr} {n cp : Nat} {xs : List D5} {x : D5} {R C : Int} {k : Nat} {zs : List D5} {ok : Bool} {w : World} (hS : ∀ (g : Nat) (w : World), Rd w (some ⟨g, 0, none⟩) xs → Calls Try.prog 35 #[mv r c (some ⟨g, 0, none⟩) n n, dy x.a x.b x.c x.d x.e] w fun ee w' => ∃ A cp, ee = .returned (mt R C A k cp ok) ∧ (Rd w' A zs ∧ (∀ a, A = some a → w.heap.size ≤ a.block)) ∧ Below w.heap.size w w') (hI : ∀ (g : Nat) (w : World), Rd w (some ⟨g, 0, none⟩) xs → Calls Try.prog 37 #[mv r c (some ⟨g, 0, none⟩) n n, dy x.a x.b x.c x.d x.e] w fun ee w' => ∃ A cp, ee = .returned (mt R C A k cp ok) ∧ (Ow w' w.heap.size 37 A zs) ∧ Below w.heap.size w w') (hz : zs.length = k) (hk : k ≤ 1048576) (hA : Rd w A xs) (hn : xs.length = n) (hb : n ≤ 1048576) :
    Calls Try.prog 6 #[mv r c A n cp, dy x.a x.b x.c x.d x.e] w fun ee w' => ee = .returned (.bool true) ∧ Below w.heap.size w w' := by
  have HA := hid hA
  have HN := hid hn
  have HS := hid hS
  have HI := hid hI
  have HZ := hid hz
  have s0 : ¬ (1048576 - (n : Int) < 0) := by omega
  have s1 : (n : Int) ≤ 1048576 := by omega
  have s2 : 0 ≤ 1048576 - (n : Int) := by omega
  have u0 : ¬ (1 + 5 * (k : Int) < 0) := by omega
  have u1 : 0 ≤ 1 + 5 * (k : Int) := by omega
  have u2 : ¬ (1 + 5 * (n : Int) < 0) := by omega
  have u3 : 0 ≤ 1 + 5 * (n : Int) := by omega
  clear hA hn hS hI hz
  go_enter Try.func6, Try.ntmps6
  go_wp2_with (fail)
  refine (szm_t s1 (by decide)).mono ?_
  rintro ee w1 ⟨rfl, hb1⟩
  have hL1 : Below w.heap.size w w1 := by (repeat' (first | (with_reducible exact Below.refl _ _) | (with_reducible assumption) | (with_reducible refine Below.alloc ?_ ?_ _) | (with_reducible refine Below.drew ?_) | (with_reducible refine below_drewN ?_ _) | (with_reducible refine Below.setCell ?_ ?_ _) | (with_reducible refine chain ?_ (by assumption) ?_) | omega | (simp; done) | (simp; omega)))
  have hz1 := hb1.size
  (try simp only [World.size_alloc] at hz1)
  have hB1 : Below w.heap.size w w1 := hL1
  have k1_0_0 : w1.cell? ⟨w.heap.size, 0, none⟩ = some (.int .i64 r) := (hb1.cell (p := ⟨w.heap.size, 0, none⟩) (by show w.heap.size < _; (try simp only [World.size_alloc]); omega)).trans (by first | rfl | (simp; done) | (simp [*]; done))
  have k1_0_1 : w1.cell? ⟨w.heap.size, 1, none⟩ = some (.int .i64 c) := (hb1.cell (p := ⟨w.heap.size, 1, none⟩) (by show w.heap.size < _; (try simp only [World.size_alloc]); omega)).trans (by first | rfl | (simp; done) | (simp [*]; done))
  have k1_0_2 : w1.cell? ⟨w.heap.size, 2, none⟩ = some (.slice A n cp) := (hb1.cell (p := ⟨w.heap.size, 2, none⟩) (by show w.heap.size < _; (try simp only [World.size_alloc]); omega)).trans (by first | rfl | (simp; done) | (simp [*]; done))
  have k1_1_0 : w1.cell? ⟨w.heap.size + 1, 0, none⟩ = some (.int .i64 x.a) := (hb1.cell (p := ⟨w.heap.size + 1, 0, none⟩) (by show w.heap.size + 1 < _; (try simp only [World.size_alloc]); omega)).trans (by first | rfl | (simp; done) | (simp [*]; done))
  have k1_1_1 : w1.cell? ⟨w.heap.size + 1, 1, none⟩ = some (.int .i64 x.b) := (hb1.cell (p := ⟨w.heap.size + 1, 1, none⟩) (by show w.heap.size + 1 < _; (try simp only [World.size_alloc]); omega)).trans (by first | rfl | (simp; done) | (simp [*]; done))
  have k1_1_2 : w1.cell? ⟨w.heap.size + 1, 2, none⟩ = some (.int .i64 x.c) := (hb1.cell (p := ⟨w.heap.size + 1, 2, none⟩) (by show w.heap.size + 1 < _; (try simp only [World.size_alloc]); omega)).trans (by first | rfl | (simp; done) | (simp [*]; done))
  have k1_1_3 : w1.cell? ⟨w.heap.size + 1, 3, none⟩ = some (.int .i64 x.d) := (hb1.cell (p := ⟨w.heap.size + 1, 3, none⟩) (by show w.heap.size + 1 < _; (try simp only [World.size_alloc]); omega)).trans (by first | rfl | (simp; done) | (simp [*]; done))
  have k1_1_4 : w1.cell? ⟨w.heap.size + 1, 4, none⟩ = some (.int .i64 x.e) := (hb1.cell (p := ⟨w.heap.size + 1, 4, none⟩) (by show w.heap.size + 1 < _; (try simp only [World.size_alloc]); omega)).trans (by first | rfl | (simp; done) | (simp [*]; done))
  have bl1_0 : w.heap.size < w1.heap.size := World.block_lt_of_cell? _ _ k1_0_0
  have bl1_1 : w.heap.size + 1 < w1.heap.size := World.block_lt_of_cell? _ _ k1_1_0
  clear hb1 hL1
  go_wp2_with (fail)
  go_cut [6, 7] (fun s6 s7 wx => CutG (∃ (b : Nat) (A : Option Addr) (cp : Nat), s6 = .pointer (some ⟨b, 0, none⟩) ∧ s7 = .bool ok ∧ wx.cell? ⟨b, 0, none⟩ = some (.int .i64 R) ∧ wx.cell? ⟨b, 1, none⟩ = some (.int .i64 C) ∧ wx.cell? ⟨b, 2, none⟩ = some (.slice A k cp) ∧ Hid (RdB wx wx.heap.size A zs)) (wx.cell? ⟨w.heap.size, 0, none⟩ = some (.int .i64 r) ∧ wx.cell? ⟨w.heap.size, 1, none⟩ = some (.int .i64 c) ∧ wx.cell? ⟨w.heap.size, 2, none⟩ = some (.slice A n cp) ∧ wx.cell? ⟨w.heap.size + 1, 0, none⟩ = some (.int .i64 x.a) ∧ wx.cell? ⟨w.heap.size + 1, 1, none⟩ = some (.int .i64 x.b) ∧ wx.cell? ⟨w.heap.size + 1, 2, none⟩ = some (.int .i64 x.c) ∧ wx.cell? ⟨w.heap.size + 1, 3, none⟩ = some (.int .i64 x.d) ∧ wx.cell? ⟨w.heap.size + 1, 4, none⟩ = some (.int .i64 x.e) ∧ w1.heap.size ≤ wx.heap.size ∧ Below w.heap.size w wx))
  case first =>
    have yk1_0_0 : w1.drew.cell? ⟨w.heap.size, 0, none⟩ = some (.int .i64 r) := k1_0_0
    have yk1_0_1 : w1.drew.cell? ⟨w.heap.size, 1, none⟩ = some (.int .i64 c) := k1_0_1
    have yk1_0_2 : w1.drew.cell? ⟨w.heap.size, 2, none⟩ = some (.slice A n cp) := k1_0_2
    have yk1_1_0 : w1.drew.cell? ⟨w.heap.size + 1, 0, none⟩ = some (.int .i64 x.a) := k1_1_0
    have yk1_1_1 : w1.drew.cell? ⟨w.heap.size + 1, 1, none⟩ = some (.int .i64 x.b) := k1_1_1
    have yk1_1_2 : w1.drew.cell? ⟨w.heap.size + 1, 2, none⟩ = some (.int .i64 x.c) := k1_1_2
    have yk1_1_3 : w1.drew.cell? ⟨w.heap.size + 1, 3, none⟩ = some (.int .i64 x.d) := k1_1_3
    have yk1_1_4 : w1.drew.cell? ⟨w.heap.size + 1, 4, none⟩ = some (.int .i64 x.e) := k1_1_4
    have hBz := hB1.size
    go_region_held3 (fun w' => w'.cell? ⟨w.heap.size, 0, none⟩ = some (.int .i64 r) ∧ w'.cell? ⟨w.heap.size, 1, none⟩ = some (.int .i64 c) ∧ w'.cell? ⟨w.heap.size, 2, none⟩ = some (.slice A n cp) ∧ w'.cell? ⟨w.heap.size + 1, 0, none⟩ = some (.int .i64 x.a) ∧ w'.cell? ⟨w.heap.size + 1, 1, none⟩ = some (.int .i64 x.b) ∧ w'.cell? ⟨w.heap.size + 1, 2, none⟩ = some (.int .i64 x.c) ∧ w'.cell? ⟨w.heap.size + 1, 3, none⟩ = some (.int .i64 x.d) ∧ w'.cell? ⟨w.heap.size + 1, 4, none⟩ = some (.int .i64 x.e)) (first | (with_reducible exact ⟨yk1_0_0, yk1_0_1, yk1_0_2, yk1_1_0, yk1_1_1, yk1_1_2, yk1_1_3, yk1_1_4⟩) | (with_reducible exact ⟨k1_0_0, k1_0_1, k1_0_2, k1_1_0, k1_1_1, k1_1_2, k1_1_3, k1_1_4⟩) | (go_split_ands; with_reducible exact ⟨kc hv0 (by with_reducible assumption), kc hv0 (by with_reducible assumption), kc hv0 (by with_reducible assumption), kc hv0 (by with_reducible assumption), kc hv0 (by with_reducible assumption), kc hv0 (by with_reducible assumption), kc hv0 (by with_reducible assumption), kc hv0 (by with_reducible assumption)⟩) | (go_split_ands; with_reducible exact ⟨kc hv1 (by with_reducible assumption), kc hv1 (by with_reducible assumption), kc hv1 (by with_reducible assumption), kc hv1 (by with_reducible assumption), kc hv1 (by with_reducible assumption), kc hv1 (by with_reducible assumption), kc hv1 (by with_reducible assumption), kc hv1 (by with_reducible assumption)⟩) | (go_split_ands; with_reducible exact ⟨kc hv2 (by with_reducible assumption), kc hv2 (by with_reducible assumption), kc hv2 (by with_reducible assumption), kc hv2 (by with_reducible assumption), kc hv2 (by with_reducible assumption), kc hv2 (by with_reducible assumption), kc hv2 (by with_reducible assumption), kc hv2 (by with_reducible assumption)⟩) | (go_split_ands; with_reducible exact ⟨kal (by with_reducible assumption), kal (by with_reducible assumption), kal (by with_reducible assumption), kal (by with_reducible assumption), kal (by with_reducible assumption), kal (by with_reducible assumption), kal (by with_reducible assumption), kal (by with_reducible assumption)⟩) | (go_split_ands; with_reducible exact ⟨kald (by with_reducible assumption), kald (by with_reducible assumption), kald (by with_reducible assumption), kald (by with_reducible assumption), kald (by with_reducible assumption), kald (by with_reducible assumption), kald (by with_reducible assumption), kald (by with_reducible assumption)⟩) | (go_split_ands; with_reducible exact ⟨kre (by omega) (by with_reducible assumption), kre (by omega) (by with_reducible assumption), kre (by omega) (by with_reducible assumption), kre (by omega) (by with_reducible assumption), kre (by omega) (by with_reducible assumption), kre (by omega) (by with_reducible assumption), kre (by omega) (by with_reducible assumption), kre (by omega) (by with_reducible assumption)⟩) | (go_split_ands; with_reducible exact ⟨kst3 (by omega) (by with_reducible assumption), kst3 (by omega) (by with_reducible assumption), kst3 (by omega) (by with_reducible assumption), kst3 (by omega) (by with_reducible assumption), kst3 (by omega) (by with_reducible assumption), kst3 (by omega) (by with_reducible assumption), kst3 (by omega) (by with_reducible assumption), kst3 (by omega) (by with_reducible assumption)⟩)) (first | (go_at_call 29; ((with_reducible refine (tm (xs := xs) ?_ HN.out hb).mono ?_); (exact HA.out.mono (by (repeat' (first | (with_reducible exact Below.refl _ _) | (with_reducible assumption) | (with_reducible refine Below.alloc ?_ ?_ _) | (with_reducible refine Below.drew ?_) | (with_reducible refine below_drewN ?_ _) | (with_reducible refine Below.setCell ?_ ?_ _) | (with_reducible refine chain ?_ (by assumption) ?_) | omega | (simp; done) | (simp; omega))))); rintro ee v0 ⟨g0, rfl, hK0, hg0, hv0⟩; obtain ⟨hcv0, hfv0, _⟩ := bcell hv0; have hq0 := hv0.size; (try simp only [World.size_drew, World.size_alloc] at hq0); (try have ho0_0 : w1.heap.size < v0.heap.size := (by omega)); (try have ho0_1 : v1.heap.size < v0.heap.size := (by omega)); (try have ho0_2 : v2.heap.size < v0.heap.size := (by omega)))) | (go_at_call 36; ((with_reducible refine (td _ _ _ _ _ _).mono ?_); rintro ee v1 ⟨rfl, hv1⟩; obtain ⟨hcv1, hfv1, _⟩ := bcell hv1; have hq1 := hv1.size; (try simp only [World.size_drew, World.size_alloc] at hq1); (try have ho1_0 : w1.heap.size < v1.heap.size := (by omega)); (try have ho1_1 : v0.heap.size < v1.heap.size := (by omega)); (try have ho1_2 : v2.heap.size < v1.heap.size := (by omega)))) | (go_at_call 35; ((with_reducible refine (HS.out _ _ ?_).mono ?_); (exact (by exact hK0.rd.mono (by (repeat' (first | (with_reducible exact Below.refl _ _) | (with_reducible assumption) | (with_reducible refine Below.alloc ?_ ?_ _) | (with_reducible refine Below.drew ?_) | (with_reducible refine below_drewN ?_ _) | (with_reducible refine Below.setCell ?_ ?_ _) | (with_reducible refine chain ?_ (by assumption) ?_) | omega | (simp; done) | (simp; omega)))))); rintro ee v2 ⟨A3, cp3, rfl, ⟨hR3, hA3⟩, hv2⟩; obtain ⟨hcv2, hfv2, _⟩ := bcell hv2; have hq2 := hv2.size; (try simp only [World.size_drew, World.size_alloc] at hq2); (try have ho2_0 : w1.heap.size < v2.heap.size := (by omega)); (try have ho2_1 : v0.heap.size < v2.heap.size := (by omega)); (try have ho2_2 : v1.heap.size < v2.heap.size := (by omega)))))
    all_goals (go_wp2_with fail; go_meet)
    all_goals go_split_ands
    all_goals (refine ⟨⟨_, A3, cp3, rfl, rfl, (by first | (go_simp; done) | (simp [*]; done)), (by first | (go_simp; done) | (simp [*]; done)), (by first | (go_simp; done) | (simp [*]; done)), (by exact Rd.b (by (repeat' (first | (with_reducible assumption) | (refine Rd.far ?_ (fun a ha => by have h9 := hA3 a ha; (try simp only [World.size_drew, World.size_alloc] at h9); dsimp only; omega) _) | (exact hR3.mono (by (repeat' (first | (with_reducible exact Below.refl _ _) | (with_reducible assumption) | (with_reducible refine Below.alloc ?_ ?_ _) | (with_reducible refine Below.drew ?_) | (with_reducible refine below_drewN ?_ _) | (with_reducible refine Below.setCell ?_ ?_ _) | (with_reducible refine chain ?_ (by assumption) ?_) | omega | (simp; done) | (simp; omega)))))))) (Nat.le_refl _))⟩, (by with_reducible assumption), (by with_reducible assumption), (by with_reducible assumption), (by with_reducible assumption), (by with_reducible assumption), (by with_reducible assumption), (by with_reducible assumption), (by with_reducible assumption), (by (try simp only [World.size_alloc, World.size_drew, World.size_setCell]); omega), (by (repeat' (first | (with_reducible exact Below.refl _ _) | (with_reducible assumption) | (with_reducible refine Below.alloc ?_ ?_ _) | (with_reducible refine Below.drew ?_) | (with_reducible refine below_drewN ?_ _) | (with_reducible refine Below.setCell ?_ ?_ _) | (with_reducible refine chain ?_ (by assumption) ?_) | omega | (simp; done) | (simp; omega))))⟩)
  case rest =>
    obtain ⟨w2, rfl⟩ : ∃ w2, w2 = wc := ⟨_, rfl⟩
    clear k1_0_0 k1_0_1 k1_0_2 k1_1_0 k1_1_1 k1_1_2 k1_1_3 k1_1_4
    obtain ⟨⟨bW, AW, cpW, rfl, rfl, k2_2_0, k2_2_1, k2_2_2, HRW⟩, k2_0_0, k2_0_1, k2_0_2, k2_1_0, k2_1_1, k2_1_2, k2_1_3, k2_1_4, hz2, hB2⟩ := hcut
    have bl2_0 : w.heap.size < w2.heap.size := World.block_lt_of_cell? _ _ k2_0_0
    have bl2_1 : w.heap.size + 1 < w2.heap.size := World.block_lt_of_cell? _ _ k2_1_0
    have bl2_2 : bW < w2.heap.size := World.block_lt_of_cell? _ _ k2_2_0
    have HW2 : Hid (RdB w2 w2.heap.size AW zs) := HRW
    clear HRW
    go_wp2_with (fail)
    refine (tm (xs := xs) ?_ HN.out hb).mono ?_
    · exact HA.out.mono (by (repeat' (first | (with_reducible exact Below.refl _ _) | (with_reducible assumption) | (with_reducible refine Below.alloc ?_ ?_ _) | (with_reducible refine Below.drew ?_) | (with_reducible refine below_drewN ?_ _) | (with_reducible refine Below.setCell ?_ ?_ _) | (with_reducible refine chain ?_ (by assumption) ?_) | omega | (simp; done) | (simp; omega))))
    rintro ee w3 ⟨g4, rfl, hK4, hg4, hb3⟩
    have hL3 : Below w2.heap.size w2 w3 := by (repeat' (first | (with_reducible exact Below.refl _ _) | (with_reducible assumption) | (with_reducible refine Below.alloc ?_ ?_ _) | (with_reducible refine Below.drew ?_) | (with_reducible refine below_drewN ?_ _) | (with_reducible refine Below.setCell ?_ ?_ _) | (with_reducible refine chain ?_ (by assumption) ?_) | omega | (simp; done) | (simp; omega)))
    have hz3 := hb3.size
    (try simp only [World.size_alloc] at hz3)
    have hB3 : Below w.heap.size w w3 := chain hB2 hL3 hB2.size
    have k3_0_0 : w3.cell? ⟨w.heap.size, 0, none⟩ = some (.int .i64 r) := (hL3.cell (p := ⟨w.heap.size, 0, none⟩) (by show w.heap.size < w2.heap.size; omega)).trans k2_0_0
    have k3_0_1 : w3.cell? ⟨w.heap.size, 1, none⟩ = some (.int .i64 c) := (hL3.cell (p := ⟨w.heap.size, 1, none⟩) (by show w.heap.size < w2.heap.size; omega)).trans k2_0_1
    have k3_0_2 : w3.cell? ⟨w.heap.size, 2, none⟩ = some (.slice A n cp) := (hL3.cell (p := ⟨w.heap.size, 2, none⟩) (by show w.heap.size < w2.heap.size; omega)).trans k2_0_2
    have k3_1_0 : w3.cell? ⟨w.heap.size + 1, 0, none⟩ = some (.int .i64 x.a) := (hL3.cell (p := ⟨w.heap.size + 1, 0, none⟩) (by show w.heap.size + 1 < w2.heap.size; omega)).trans k2_1_0
    have k3_1_1 : w3.cell? ⟨w.heap.size + 1, 1, none⟩ = some (.int .i64 x.b) := (hL3.cell (p := ⟨w.heap.size + 1, 1, none⟩) (by show w.heap.size + 1 < w2.heap.size; omega)).trans k2_1_1
    have k3_1_2 : w3.cell? ⟨w.heap.size + 1, 2, none⟩ = some (.int .i64 x.c) := (hL3.cell (p := ⟨w.heap.size + 1, 2, none⟩) (by show w.heap.size + 1 < w2.heap.size; omega)).trans k2_1_2
    have k3_1_3 : w3.cell? ⟨w.heap.size + 1, 3, none⟩ = some (.int .i64 x.d) := (hL3.cell (p := ⟨w.heap.size + 1, 3, none⟩) (by show w.heap.size + 1 < w2.heap.size; omega)).trans k2_1_3
    have k3_1_4 : w3.cell? ⟨w.heap.size + 1, 4, none⟩ = some (.int .i64 x.e) := (hL3.cell (p := ⟨w.heap.size + 1, 4, none⟩) (by show w.heap.size + 1 < w2.heap.size; omega)).trans k2_1_4
    have k3_2_0 : w3.cell? ⟨bW, 0, none⟩ = some (.int .i64 R) := (hL3.cell (p := ⟨bW, 0, none⟩) (by show bW < w2.heap.size; omega)).trans k2_2_0
    have k3_2_1 : w3.cell? ⟨bW, 1, none⟩ = some (.int .i64 C) := (hL3.cell (p := ⟨bW, 1, none⟩) (by show bW < w2.heap.size; omega)).trans k2_2_1
    have k3_2_2 : w3.cell? ⟨bW, 2, none⟩ = some (.slice AW k cpW) := (hL3.cell (p := ⟨bW, 2, none⟩) (by show bW < w2.heap.size; omega)).trans k2_2_2
    have bl3_0 : w.heap.size < w3.heap.size := World.block_lt_of_cell? _ _ k3_0_0
    have bl3_1 : w.heap.size + 1 < w3.heap.size := World.block_lt_of_cell? _ _ k3_1_0
    have bl3_2 : bW < w3.heap.size := World.block_lt_of_cell? _ _ k3_2_0
    have HW3 := hid (HW2.out.mono hL3)
    clear hb3 hL3
    clear k2_0_0 k2_0_1 k2_0_2 k2_1_0 k2_1_1 k2_1_2 k2_1_3 k2_1_4 k2_2_0 k2_2_1 k2_2_2 HW2
    (try simp only [World.size_alloc] at hg4)
    have HX3 : Hid (Ow w3 w2.heap.size 37 (some ⟨g4, 0, none⟩) xs) := hK4.ow (by omega)
    clear hK4
    have hr_X := HX3.out.row
    go_wp2_with (fail)
    obtain ⟨w4, hw4⟩ : ∃ W, W = w3.alloc (.cells #[.int .i64 r, .int .i64 c, .slice (some ⟨g4, 0, none⟩) n n] 26) := ⟨_, rfl⟩
    rw [← hw4]
    have hb4 : Below w3.heap.size w3 w4 := by rw [hw4]; exact (Below.refl _ _).alloc (Nat.le_refl _) _
    have k4_3_0 : w4.cell? ⟨w3.heap.size, 0, none⟩ = some (.int .i64 r) := by rw [hw4]; first | rfl | (simp; done)
    have k4_3_1 : w4.cell? ⟨w3.heap.size, 1, none⟩ = some (.int .i64 c) := by rw [hw4]; first | rfl | (simp; done)
    have k4_3_2 : w4.cell? ⟨w3.heap.size, 2, none⟩ = some (.slice (some ⟨g4, 0, none⟩) n n) := by rw [hw4]; first | rfl | (simp; done)
    have hL4 : Below w3.heap.size w3 w4 := by (repeat' (first | (with_reducible exact Below.refl _ _) | (with_reducible assumption) | (with_reducible refine Below.alloc ?_ ?_ _) | (with_reducible refine Below.drew ?_) | (with_reducible refine below_drewN ?_ _) | (with_reducible refine Below.setCell ?_ ?_ _) | (with_reducible refine chain ?_ (by assumption) ?_) | omega | (simp; done) | (simp; omega)))
    have hz4 := hb4.size
    (try simp only [World.size_alloc] at hz4)
    have hB4 : Below w.heap.size w w4 := chain hB3 hL4 hB3.size
    have k4_0_0 : w4.cell? ⟨w.heap.size, 0, none⟩ = some (.int .i64 r) := (hL4.cell (p := ⟨w.heap.size, 0, none⟩) (by show w.heap.size < w3.heap.size; omega)).trans k3_0_0
    have k4_0_1 : w4.cell? ⟨w.heap.size, 1, none⟩ = some (.int .i64 c) := (hL4.cell (p := ⟨w.heap.size, 1, none⟩) (by show w.heap.size < w3.heap.size; omega)).trans k3_0_1
    have k4_0_2 : w4.cell? ⟨w.heap.size, 2, none⟩ = some (.slice A n cp) := (hL4.cell (p := ⟨w.heap.size, 2, none⟩) (by show w.heap.size < w3.heap.size; omega)).trans k3_0_2
    have k4_1_0 : w4.cell? ⟨w.heap.size + 1, 0, none⟩ = some (.int .i64 x.a) := (hL4.cell (p := ⟨w.heap.size + 1, 0, none⟩) (by show w.heap.size + 1 < w3.heap.size; omega)).trans k3_1_0
    have k4_1_1 : w4.cell? ⟨w.heap.size + 1, 1, none⟩ = some (.int .i64 x.b) := (hL4.cell (p := ⟨w.heap.size + 1, 1, none⟩) (by show w.heap.size + 1 < w3.heap.size; omega)).trans k3_1_1
    have k4_1_2 : w4.cell? ⟨w.heap.size + 1, 2, none⟩ = some (.int .i64 x.c) := (hL4.cell (p := ⟨w.heap.size + 1, 2, none⟩) (by show w.heap.size + 1 < w3.heap.size; omega)).trans k3_1_2
    have k4_1_3 : w4.cell? ⟨w.heap.size + 1, 3, none⟩ = some (.int .i64 x.d) := (hL4.cell (p := ⟨w.heap.size + 1, 3, none⟩) (by show w.heap.size + 1 < w3.heap.size; omega)).trans k3_1_3
    have k4_1_4 : w4.cell? ⟨w.heap.size + 1, 4, none⟩ = some (.int .i64 x.e) := (hL4.cell (p := ⟨w.heap.size + 1, 4, none⟩) (by show w.heap.size + 1 < w3.heap.size; omega)).trans k3_1_4
    have k4_2_0 : w4.cell? ⟨bW, 0, none⟩ = some (.int .i64 R) := (hL4.cell (p := ⟨bW, 0, none⟩) (by show bW < w3.heap.size; omega)).trans k3_2_0
    have k4_2_1 : w4.cell? ⟨bW, 1, none⟩ = some (.int .i64 C) := (hL4.cell (p := ⟨bW, 1, none⟩) (by show bW < w3.heap.size; omega)).trans k3_2_1
    have k4_2_2 : w4.cell? ⟨bW, 2, none⟩ = some (.slice AW k cpW) := (hL4.cell (p := ⟨bW, 2, none⟩) (by show bW < w3.heap.size; omega)).trans k3_2_2
    have bl4_0 : w.heap.size < w4.heap.size := World.block_lt_of_cell? _ _ k4_0_0
    have bl4_1 : w.heap.size + 1 < w4.heap.size := World.block_lt_of_cell? _ _ k4_1_0
    have bl4_2 : bW < w4.heap.size := World.block_lt_of_cell? _ _ k4_2_0
    have HW4 := hid (HW3.out.mono hL4)
    have HX4 := hid (HX3.out.mono hL4)
    clear hb4 hL4
    clear k3_0_0 k3_0_1 k3_0_2 k3_1_0 k3_1_1 k3_1_2 k3_1_3 k3_1_4 k3_2_0 k3_2_1 k3_2_2 HW3 HX3
    have bl4_3 : w3.heap.size < w4.heap.size := World.block_lt_of_cell? _ _ k4_3_0
    clear hw4
    go_wp2_with (fail)
    go_cut [9, 10] (fun s9 s10 wx => CutG (∃ (b : Nat) (A : Option Addr) (cp : Nat), s9 = .pointer (some ⟨b, 0, none⟩) ∧ s10 = .bool ok ∧ wx.cell? ⟨b, 0, none⟩ = some (.int .i64 R) ∧ wx.cell? ⟨b, 1, none⟩ = some (.int .i64 C) ∧ wx.cell? ⟨b, 2, none⟩ = some (.slice A k cp) ∧ Hid (Ow wx w4.heap.size 37 A zs ∧ (∀ a, A = some a → a.block ≠ b) ∧ w4.heap.size ≤ b)) (wx.cell? ⟨w.heap.size, 0, none⟩ = some (.int .i64 r) ∧ wx.cell? ⟨w.heap.size, 1, none⟩ = some (.int .i64 c) ∧ wx.cell? ⟨w.heap.size, 2, none⟩ = some (.slice A n cp) ∧ wx.cell? ⟨w.heap.size + 1, 0, none⟩ = some (.int .i64 x.a) ∧ wx.cell? ⟨w.heap.size + 1, 1, none⟩ = some (.int .i64 x.b) ∧ wx.cell? ⟨w.heap.size + 1, 2, none⟩ = some (.int .i64 x.c) ∧ wx.cell? ⟨w.heap.size + 1, 3, none⟩ = some (.int .i64 x.d) ∧ wx.cell? ⟨w.heap.size + 1, 4, none⟩ = some (.int .i64 x.e) ∧ wx.cell? ⟨bW, 0, none⟩ = some (.int .i64 R) ∧ wx.cell? ⟨bW, 1, none⟩ = some (.int .i64 C) ∧ wx.cell? ⟨bW, 2, none⟩ = some (.slice AW k cpW) ∧ wx.cell? ⟨w3.heap.size, 0, none⟩ = some (.int .i64 r) ∧ wx.cell? ⟨w3.heap.size, 1, none⟩ = some (.int .i64 c) ∧ wx.cell? ⟨w3.heap.size, 2, none⟩ = some (.slice (some ⟨g4, 0, none⟩) n n) ∧ Hid (RdB wx w2.heap.size AW zs) ∧ Hid (Ow wx w2.heap.size 37 (some ⟨g4, 0, none⟩) xs) ∧ w4.heap.size ≤ wx.heap.size ∧ Below w.heap.size w wx))
    case first =>
      have yk4_0_0 : w4.drew.cell? ⟨w.heap.size, 0, none⟩ = some (.int .i64 r) := k4_0_0
      have yk4_0_1 : w4.drew.cell? ⟨w.heap.size, 1, none⟩ = some (.int .i64 c) := k4_0_1
      have yk4_0_2 : w4.drew.cell? ⟨w.heap.size, 2, none⟩ = some (.slice A n cp) := k4_0_2
      have yk4_1_0 : w4.drew.cell? ⟨w.heap.size + 1, 0, none⟩ = some (.int .i64 x.a) := k4_1_0
      have yk4_1_1 : w4.drew.cell? ⟨w.heap.size + 1, 1, none⟩ = some (.int .i64 x.b) := k4_1_1
      have yk4_1_2 : w4.drew.cell? ⟨w.heap.size + 1, 2, none⟩ = some (.int .i64 x.c) := k4_1_2
      have yk4_1_3 : w4.drew.cell? ⟨w.heap.size + 1, 3, none⟩ = some (.int .i64 x.d) := k4_1_3
      have yk4_1_4 : w4.drew.cell? ⟨w.heap.size + 1, 4, none⟩ = some (.int .i64 x.e) := k4_1_4
      have yk4_2_0 : w4.drew.cell? ⟨bW, 0, none⟩ = some (.int .i64 R) := k4_2_0
      have yk4_2_1 : w4.drew.cell? ⟨bW, 1, none⟩ = some (.int .i64 C) := k4_2_1
      have yk4_2_2 : w4.drew.cell? ⟨bW, 2, none⟩ = some (.slice AW k cpW) := k4_2_2
      have yk4_3_0 : w4.drew.cell? ⟨w3.heap.size, 0, none⟩ = some (.int .i64 r) := k4_3_0
      have yk4_3_1 : w4.drew.cell? ⟨w3.heap.size, 1, none⟩ = some (.int .i64 c) := k4_3_1
      have yk4_3_2 : w4.drew.cell? ⟨w3.heap.size, 2, none⟩ = some (.slice (some ⟨g4, 0, none⟩) n n) := k4_3_2
      have hBz := hB4.size
      go_region_held3 (fun w' => w'.cell? ⟨w.heap.size, 0, none⟩ = some (.int .i64 r) ∧ w'.cell? ⟨w.heap.size, 1, none⟩ = some (.int .i64 c) ∧ w'.cell? ⟨w.heap.size, 2, none⟩ = some (.slice A n cp) ∧ w'.cell? ⟨w.heap.size + 1, 0, none⟩ = some (.int .i64 x.a) ∧ w'.cell? ⟨w.heap.size + 1, 1, none⟩ = some (.int .i64 x.b) ∧ w'.cell? ⟨w.heap.size + 1, 2, none⟩ = some (.int .i64 x.c) ∧ w'.cell? ⟨w.heap.size + 1, 3, none⟩ = some (.int .i64 x.d) ∧ w'.cell? ⟨w.heap.size + 1, 4, none⟩ = some (.int .i64 x.e) ∧ w'.cell? ⟨bW, 0, none⟩ = some (.int .i64 R) ∧ w'.cell? ⟨bW, 1, none⟩ = some (.int .i64 C) ∧ w'.cell? ⟨bW, 2, none⟩ = some (.slice AW k cpW) ∧ w'.cell? ⟨w3.heap.size, 0, none⟩ = some (.int .i64 r) ∧ w'.cell? ⟨w3.heap.size, 1, none⟩ = some (.int .i64 c) ∧ w'.cell? ⟨w3.heap.size, 2, none⟩ = some (.slice (some ⟨g4, 0, none⟩) n n)) (first | (with_reducible exact ⟨yk4_0_0, yk4_0_1, yk4_0_2, yk4_1_0, yk4_1_1, yk4_1_2, yk4_1_3, yk4_1_4, yk4_2_0, yk4_2_1, yk4_2_2, yk4_3_0, yk4_3_1, yk4_3_2⟩) | (with_reducible exact ⟨k4_0_0, k4_0_1, k4_0_2, k4_1_0, k4_1_1, k4_1_2, k4_1_3, k4_1_4, k4_2_0, k4_2_1, k4_2_2, k4_3_0, k4_3_1, k4_3_2⟩) | (go_split_ands; with_reducible exact ⟨kc hv0 (by with_reducible assumption), kc hv0 (by with_reducible assumption), kc hv0 (by with_reducible assumption), kc hv0 (by with_reducible assumption), kc hv0 (by with_reducible assumption), kc hv0 (by with_reducible assumption), kc hv0 (by with_reducible assumption), kc hv0 (by with_reducible assumption), kc hv0 (by with_reducible assumption), kc hv0 (by with_reducible assumption), kc hv0 (by with_reducible assumption), kc hv0 (by with_reducible assumption), kc hv0 (by with_reducible assumption), kc hv0 (by with_reducible assumption)⟩) | (go_split_ands; with_reducible exact ⟨kc hv1 (by with_reducible assumption), kc hv1 (by with_reducible assumption), kc hv1 (by with_reducible assumption), kc hv1 (by with_reducible assumption), kc hv1 (by with_reducible assumption), kc hv1 (by with_reducible assumption), kc hv1 (by with_reducible assumption), kc hv1 (by with_reducible assumption), kc hv1 (by with_reducible assumption), kc hv1 (by with_reducible assumption), kc hv1 (by with_reducible assumption), kc hv1 (by with_reducible assumption), kc hv1 (by with_reducible assumption), kc hv1 (by with_reducible assumption)⟩) | (go_split_ands; with_reducible exact ⟨kal (by with_reducible assumption), kal (by with_reducible assumption), kal (by with_reducible assumption), kal (by with_reducible assumption), kal (by with_reducible assumption), kal (by with_reducible assumption), kal (by with_reducible assumption), kal (by with_reducible assumption), kal (by with_reducible assumption), kal (by with_reducible assumption), kal (by with_reducible assumption), kal (by with_reducible assumption), kal (by with_reducible assumption), kal (by with_reducible assumption)⟩) | (go_split_ands; with_reducible exact ⟨kald (by with_reducible assumption), kald (by with_reducible assumption), kald (by with_reducible assumption), kald (by with_reducible assumption), kald (by with_reducible assumption), kald (by with_reducible assumption), kald (by with_reducible assumption), kald (by with_reducible assumption), kald (by with_reducible assumption), kald (by with_reducible assumption), kald (by with_reducible assumption), kald (by with_reducible assumption), kald (by with_reducible assumption), kald (by with_reducible assumption)⟩) | (go_split_ands; with_reducible exact ⟨kre (by omega) (by with_reducible assumption), kre (by omega) (by with_reducible assumption), kre (by omega) (by with_reducible assumption), kre (by omega) (by with_reducible assumption), kre (by omega) (by with_reducible assumption), kre (by omega) (by with_reducible assumption), kre (by omega) (by with_reducible assumption), kre (by omega) (by with_reducible assumption), kre (by omega) (by with_reducible assumption), kre (by omega) (by with_reducible assumption), kre (by omega) (by with_reducible assumption), kre (by omega) (by with_reducible assumption), kre (by omega) (by with_reducible assumption), kre (by omega) (by with_reducible assumption)⟩) | (go_split_ands; with_reducible exact ⟨kst3 (by omega) (by with_reducible assumption), kst3 (by omega) (by with_reducible assumption), kst3 (by omega) (by with_reducible assumption), kst3 (by omega) (by with_reducible assumption), kst3 (by omega) (by with_reducible assumption), kst3 (by omega) (by with_reducible assumption), kst3 (by omega) (by with_reducible assumption), kst3 (by omega) (by with_reducible assumption), kst3 (by omega) (by with_reducible assumption), kst3 (by omega) (by with_reducible assumption), kst3 (by omega) (by with_reducible assumption), kst3 (by omega) (by with_reducible assumption), kst3 (by omega) (by with_reducible assumption), kst3 (by omega) (by with_reducible assumption)⟩)) (first | (go_at_call 36; ((with_reducible refine (td _ _ _ _ _ _).mono ?_); rintro ee v0 ⟨rfl, hv0⟩; obtain ⟨hcv0, hfv0, _⟩ := bcell hv0; have hq0 := hv0.size; (try simp only [World.size_drew, World.size_alloc] at hq0); (try have ho0_0 : w4.heap.size < v0.heap.size := (by omega)); (try have ho0_1 : v1.heap.size < v0.heap.size := (by omega)))) | (go_at_call 37; ((with_reducible refine (HI.out _ _ ?_).mono ?_); (exact (by exact HX4.out.rd.mono (by (repeat' (first | (with_reducible exact Below.refl _ _) | (with_reducible assumption) | (with_reducible refine Below.alloc ?_ ?_ _) | (with_reducible refine Below.drew ?_) | (with_reducible refine below_drewN ?_ _) | (with_reducible refine Below.setCell ?_ ?_ _) | (with_reducible refine chain ?_ (by assumption) ?_) | omega | (simp; done) | (simp; omega)))))); rintro ee v1 ⟨A3, cp3, rfl, hO3, hv1⟩; obtain ⟨hcv1, hfv1, _⟩ := bcell hv1; have hq1 := hv1.size; (try simp only [World.size_drew, World.size_alloc] at hq1); (try have ho1_0 : w4.heap.size < v1.heap.size := (by omega)); (try have ho1_1 : v0.heap.size < v1.heap.size := (by omega)))))
      all_goals (go_wp2_with fail; go_meet)
      all_goals go_split_ands
      all_goals ((have hA3 := hO3.low); (have hO7 : Ow _ w4.heap.size 37 A3 zs := hO3.dn (by (try simp only [World.size_drew, World.size_alloc]); omega)); (have hO8 : ∀ a, A3 = some a → a.block < _ := fun a ha => (hO3.row a.block (by rw [ha]; rfl)).2); refine ⟨⟨_, A3, cp3, rfl, rfl, (by first | (go_simp; done) | (simp [*]; done)), (by first | (go_simp; done) | (simp [*]; done)), (by first | (go_simp; done) | (simp [*]; done)), (by show Ow _ _ _ _ _ ∧ _; refine ⟨?_, fun a ha => ?_, ?_⟩; (· (repeat' (first | (with_reducible assumption) | (refine Ow.far ?_ (fun a ha => by have h9 := hA3 a ha; (try simp only [World.size_drew, World.size_alloc] at h9); dsimp only; omega) _) | (exact hO7.mono (by (repeat' (first | (with_reducible exact Below.refl _ _) | (with_reducible assumption) | (with_reducible refine Below.alloc ?_ ?_ _) | (with_reducible refine Below.drew ?_) | (with_reducible refine below_drewN ?_ _) | (with_reducible refine Below.setCell ?_ ?_ _) | (with_reducible refine chain ?_ (by assumption) ?_) | omega | (simp; done) | (simp; omega)))))))); (· have h8 := hA3 a ha; have h9 := hO8 a ha; (try simp only [World.size_drew, World.size_alloc] at h8); (try simp only [World.size_drew, World.size_alloc]); omega); (· (try simp only [World.size_drew, World.size_alloc]); omega))⟩, (by with_reducible assumption), (by with_reducible assumption), (by with_reducible assumption), (by with_reducible assumption), (by with_reducible assumption), (by with_reducible assumption), (by with_reducible assumption), (by with_reducible assumption), (by with_reducible assumption), (by with_reducible assumption), (by with_reducible assumption), (by with_reducible assumption), (by with_reducible assumption), (by with_reducible assumption), (by exact HW4.out.mono (by (repeat' (first | (with_reducible exact Below.refl _ _) | (with_reducible assumption) | (with_reducible refine Below.alloc ?_ ?_ _) | (with_reducible refine Below.drew ?_) | (with_reducible refine below_drewN ?_ _) | (with_reducible refine Below.setCell ?_ ?_ _) | (with_reducible refine chain ?_ (by assumption) ?_) | omega | (simp; done) | (simp; omega))))), (by exact HX4.out.mono (by (repeat' (first | (with_reducible exact Below.refl _ _) | (with_reducible assumption) | (with_reducible refine Below.alloc ?_ ?_ _) | (with_reducible refine Below.drew ?_) | (with_reducible refine below_drewN ?_ _) | (with_reducible refine Below.setCell ?_ ?_ _) | (with_reducible refine chain ?_ (by assumption) ?_) | omega | (simp; done) | (simp; omega))))), (by (try simp only [World.size_alloc, World.size_drew, World.size_setCell]); omega), (by (repeat' (first | (with_reducible exact Below.refl _ _) | (with_reducible assumption) | (with_reducible refine Below.alloc ?_ ?_ _) | (with_reducible refine Below.drew ?_) | (with_reducible refine below_drewN ?_ _) | (with_reducible refine Below.setCell ?_ ?_ _) | (with_reducible refine chain ?_ (by assumption) ?_) | omega | (simp; done) | (simp; omega))))⟩)
    case rest =>
      obtain ⟨w5, rfl⟩ : ∃ w5, w5 = wc := ⟨_, rfl⟩
      clear k4_0_0 k4_0_1 k4_0_2 k4_1_0 k4_1_1 k4_1_2 k4_1_3 k4_1_4 k4_2_0 k4_2_1 k4_2_2 k4_3_0 k4_3_1 k4_3_2 HW4 HX4
      obtain ⟨⟨bG, AG, cpG, rfl, rfl, k5_4_0, k5_4_1, k5_4_2, HRG⟩, k5_0_0, k5_0_1, k5_0_2, k5_1_0, k5_1_1, k5_1_2, k5_1_3, k5_1_4, k5_2_0, k5_2_1, k5_2_2, k5_3_0, k5_3_1, k5_3_2, HW5, HX5, hz5, hB5⟩ := hcut
      have bl5_0 : w.heap.size < w5.heap.size := World.block_lt_of_cell? _ _ k5_0_0
      have bl5_1 : w.heap.size + 1 < w5.heap.size := World.block_lt_of_cell? _ _ k5_1_0
      have bl5_2 : bW < w5.heap.size := World.block_lt_of_cell? _ _ k5_2_0
      have bl5_3 : w3.heap.size < w5.heap.size := World.block_lt_of_cell? _ _ k5_3_0
      have bl5_4 : bG < w5.heap.size := World.block_lt_of_cell? _ _ k5_4_0
      have HG5 : Hid (Ow w5 w4.heap.size 37 AG zs) := HRG.out.1
      have hr_G : ∀ r, blk AG = some r → w4.heap.size ≤ r ∧ r < w5.heap.size ∧ r ≠ bG := fun r hr => ⟨(HG5.out.row r hr).1, (HG5.out.row r hr).2, by cases AG with | none => cases hr | some a => (simp only [blk, Option.map_some, Option.some.injEq] at hr; rw [← hr]; exact HRG.out.2.1 a rfl)⟩
      have lbG : w4.heap.size ≤ bG := HRG.out.2.2
      clear HRG
      go_wp2_with (fail)
      refine (eqm (xs := zs) ?_ ?_ HZ.out hk).mono ?_
      · exact HG5.out.rd.mono (by (repeat' (first | (with_reducible exact Below.refl _ _) | (with_reducible assumption) | (with_reducible refine Below.alloc ?_ ?_ _) | (with_reducible refine Below.drew ?_) | (with_reducible refine below_drewN ?_ _) | (with_reducible refine Below.setCell ?_ ?_ _) | (with_reducible refine chain ?_ (by assumption) ?_) | omega | (simp; done) | (simp; omega))))
      · exact HW5.out.rd.mono (by (repeat' (first | (with_reducible exact Below.refl _ _) | (with_reducible assumption) | (with_reducible refine Below.alloc ?_ ?_ _) | (with_reducible refine Below.drew ?_) | (with_reducible refine below_drewN ?_ _) | (with_reducible refine Below.setCell ?_ ?_ _) | (with_reducible refine chain ?_ (by assumption) ?_) | omega | (simp; done) | (simp; omega))))
      rintro ee w6 ⟨rfl, hb6⟩
      have hL6 : Below w5.heap.size w5 w6 := by (repeat' (first | (with_reducible exact Below.refl _ _) | (with_reducible assumption) | (with_reducible refine Below.alloc ?_ ?_ _) | (with_reducible refine Below.drew ?_) | (with_reducible refine below_drewN ?_ _) | (with_reducible refine Below.setCell ?_ ?_ _) | (with_reducible refine chain ?_ (by assumption) ?_) | omega | (simp; done) | (simp; omega)))
      have hz6 := hb6.size
      (try simp only [World.size_alloc] at hz6)
      have hB6 : Below w.heap.size w w6 := chain hB5 hL6 hB5.size
      have k6_0_0 : w6.cell? ⟨w.heap.size, 0, none⟩ = some (.int .i64 r) := (hL6.cell (p := ⟨w.heap.size, 0, none⟩) (by show w.heap.size < w5.heap.size; omega)).trans k5_0_0
      have k6_0_1 : w6.cell? ⟨w.heap.size, 1, none⟩ = some (.int .i64 c) := (hL6.cell (p := ⟨w.heap.size, 1, none⟩) (by show w.heap.size < w5.heap.size; omega)).trans k5_0_1
      have k6_0_2 : w6.cell? ⟨w.heap.size, 2, none⟩ = some (.slice A n cp) := (hL6.cell (p := ⟨w.heap.size, 2, none⟩) (by show w.heap.size < w5.heap.size; omega)).trans k5_0_2
      have k6_1_0 : w6.cell? ⟨w.heap.size + 1, 0, none⟩ = some (.int .i64 x.a) := (hL6.cell (p := ⟨w.heap.size + 1, 0, none⟩) (by show w.heap.size + 1 < w5.heap.size; omega)).trans k5_1_0
      have k6_1_1 : w6.cell? ⟨w.heap.size + 1, 1, none⟩ = some (.int .i64 x.b) := (hL6.cell (p := ⟨w.heap.size + 1, 1, none⟩) (by show w.heap.size + 1 < w5.heap.size; omega)).trans k5_1_1
      have k6_1_2 : w6.cell? ⟨w.heap.size + 1, 2, none⟩ = some (.int .i64 x.c) := (hL6.cell (p := ⟨w.heap.size + 1, 2, none⟩) (by show w.heap.size + 1 < w5.heap.size; omega)).trans k5_1_2
      have k6_1_3 : w6.cell? ⟨w.heap.size + 1, 3, none⟩ = some (.int .i64 x.d) := (hL6.cell (p := ⟨w.heap.size + 1, 3, none⟩) (by show w.heap.size + 1 < w5.heap.size; omega)).trans k5_1_3
      have k6_1_4 : w6.cell? ⟨w.heap.size + 1, 4, none⟩ = some (.int .i64 x.e) := (hL6.cell (p := ⟨w.heap.size + 1, 4, none⟩) (by show w.heap.size + 1 < w5.heap.size; omega)).trans k5_1_4
      have k6_2_0 : w6.cell? ⟨bW, 0, none⟩ = some (.int .i64 R) := (hL6.cell (p := ⟨bW, 0, none⟩) (by show bW < w5.heap.size; omega)).trans k5_2_0
      have k6_2_1 : w6.cell? ⟨bW, 1, none⟩ = some (.int .i64 C) := (hL6.cell (p := ⟨bW, 1, none⟩) (by show bW < w5.heap.size; omega)).trans k5_2_1
      have k6_2_2 : w6.cell? ⟨bW, 2, none⟩ = some (.slice AW k cpW) := (hL6.cell (p := ⟨bW, 2, none⟩) (by show bW < w5.heap.size; omega)).trans k5_2_2
      have k6_3_0 : w6.cell? ⟨w3.heap.size, 0, none⟩ = some (.int .i64 r) := (hL6.cell (p := ⟨w3.heap.size, 0, none⟩) (by show w3.heap.size < w5.heap.size; omega)).trans k5_3_0
      have k6_3_1 : w6.cell? ⟨w3.heap.size, 1, none⟩ = some (.int .i64 c) := (hL6.cell (p := ⟨w3.heap.size, 1, none⟩) (by show w3.heap.size < w5.heap.size; omega)).trans k5_3_1
      have k6_3_2 : w6.cell? ⟨w3.heap.size, 2, none⟩ = some (.slice (some ⟨g4, 0, none⟩) n n) := (hL6.cell (p := ⟨w3.heap.size, 2, none⟩) (by show w3.heap.size < w5.heap.size; omega)).trans k5_3_2
      have k6_4_0 : w6.cell? ⟨bG, 0, none⟩ = some (.int .i64 R) := (hL6.cell (p := ⟨bG, 0, none⟩) (by show bG < w5.heap.size; omega)).trans k5_4_0
      have k6_4_1 : w6.cell? ⟨bG, 1, none⟩ = some (.int .i64 C) := (hL6.cell (p := ⟨bG, 1, none⟩) (by show bG < w5.heap.size; omega)).trans k5_4_1
      have k6_4_2 : w6.cell? ⟨bG, 2, none⟩ = some (.slice AG k cpG) := (hL6.cell (p := ⟨bG, 2, none⟩) (by show bG < w5.heap.size; omega)).trans k5_4_2
      have bl6_0 : w.heap.size < w6.heap.size := World.block_lt_of_cell? _ _ k6_0_0
      have bl6_1 : w.heap.size + 1 < w6.heap.size := World.block_lt_of_cell? _ _ k6_1_0
      have bl6_2 : bW < w6.heap.size := World.block_lt_of_cell? _ _ k6_2_0
      have bl6_3 : w3.heap.size < w6.heap.size := World.block_lt_of_cell? _ _ k6_3_0
      have bl6_4 : bG < w6.heap.size := World.block_lt_of_cell? _ _ k6_4_0
      have HW6 := hid (HW5.out.mono hL6)
      have HX6 := hid (HX5.out.mono hL6)
      have HG6 := hid (HG5.out.mono hL6)
      clear hb6 hL6
      clear k5_0_0 k5_0_1 k5_0_2 k5_1_0 k5_1_1 k5_1_2 k5_1_3 k5_1_4 k5_2_0 k5_2_1 k5_2_2 k5_3_0 k5_3_1 k5_3_2 k5_4_0 k5_4_1 k5_4_2 HW5 HX5 HG5
      go_wp2_with (fail)
      go_cut [51] (fun s51 wx => CutG (s51 = .bool false) (wx.cell? ⟨w.heap.size, 0, none⟩ = some (.int .i64 r) ∧ wx.cell? ⟨w.heap.size, 1, none⟩ = some (.int .i64 c) ∧ wx.cell? ⟨w.heap.size, 2, none⟩ = some (.slice A n cp) ∧ wx.cell? ⟨w.heap.size + 1, 0, none⟩ = some (.int .i64 x.a) ∧ wx.cell? ⟨w.heap.size + 1, 1, none⟩ = some (.int .i64 x.b) ∧ wx.cell? ⟨w.heap.size + 1, 2, none⟩ = some (.int .i64 x.c) ∧ wx.cell? ⟨w.heap.size + 1, 3, none⟩ = some (.int .i64 x.d) ∧ wx.cell? ⟨w.heap.size + 1, 4, none⟩ = some (.int .i64 x.e) ∧ wx.cell? ⟨bW, 0, none⟩ = some (.int .i64 R) ∧ wx.cell? ⟨bW, 1, none⟩ = some (.int .i64 C) ∧ wx.cell? ⟨bW, 2, none⟩ = some (.slice AW k cpW) ∧ wx.cell? ⟨w3.heap.size, 0, none⟩ = some (.int .i64 r) ∧ wx.cell? ⟨w3.heap.size, 1, none⟩ = some (.int .i64 c) ∧ wx.cell? ⟨w3.heap.size, 2, none⟩ = some (.slice (some ⟨g4, 0, none⟩) n n) ∧ wx.cell? ⟨bG, 0, none⟩ = some (.int .i64 R) ∧ wx.cell? ⟨bG, 1, none⟩ = some (.int .i64 C) ∧ wx.cell? ⟨bG, 2, none⟩ = some (.slice AG k cpG) ∧ Hid (RdB wx w2.heap.size AW zs) ∧ Hid (Ow wx w2.heap.size 37 (some ⟨g4, 0, none⟩) xs) ∧ Hid (Ow wx w4.heap.size 37 AG zs) ∧ w6.heap.size ≤ wx.heap.size ∧ Below w.heap.size w wx))
      case first =>
        have yk6_0_0 : w6.drew.cell? ⟨w.heap.size, 0, none⟩ = some (.int .i64 r) := k6_0_0
        have yk6_0_1 : w6.drew.cell? ⟨w.heap.size, 1, none⟩ = some (.int .i64 c) := k6_0_1
        have yk6_0_2 : w6.drew.cell? ⟨w.heap.size, 2, none⟩ = some (.slice A n cp) := k6_0_2
        have yk6_1_0 : w6.drew.cell? ⟨w.heap.size + 1, 0, none⟩ = some (.int .i64 x.a) := k6_1_0
        have yk6_1_1 : w6.drew.cell? ⟨w.heap.size + 1, 1, none⟩ = some (.int .i64 x.b) := k6_1_1
        have yk6_1_2 : w6.drew.cell? ⟨w.heap.size + 1, 2, none⟩ = some (.int .i64 x.c) := k6_1_2
        have yk6_1_3 : w6.drew.cell? ⟨w.heap.size + 1, 3, none⟩ = some (.int .i64 x.d) := k6_1_3
        have yk6_1_4 : w6.drew.cell? ⟨w.heap.size + 1, 4, none⟩ = some (.int .i64 x.e) := k6_1_4
        have yk6_2_0 : w6.drew.cell? ⟨bW, 0, none⟩ = some (.int .i64 R) := k6_2_0
        have yk6_2_1 : w6.drew.cell? ⟨bW, 1, none⟩ = some (.int .i64 C) := k6_2_1
        have yk6_2_2 : w6.drew.cell? ⟨bW, 2, none⟩ = some (.slice AW k cpW) := k6_2_2
        have yk6_3_0 : w6.drew.cell? ⟨w3.heap.size, 0, none⟩ = some (.int .i64 r) := k6_3_0
        have yk6_3_1 : w6.drew.cell? ⟨w3.heap.size, 1, none⟩ = some (.int .i64 c) := k6_3_1
        have yk6_3_2 : w6.drew.cell? ⟨w3.heap.size, 2, none⟩ = some (.slice (some ⟨g4, 0, none⟩) n n) := k6_3_2
        have yk6_4_0 : w6.drew.cell? ⟨bG, 0, none⟩ = some (.int .i64 R) := k6_4_0
        have yk6_4_1 : w6.drew.cell? ⟨bG, 1, none⟩ = some (.int .i64 C) := k6_4_1
        have yk6_4_2 : w6.drew.cell? ⟨bG, 2, none⟩ = some (.slice AG k cpG) := k6_4_2
        have hBz := hB6.size
        go_region_held3 (fun w' => w'.cell? ⟨w.heap.size, 0, none⟩ = some (.int .i64 r) ∧ w'.cell? ⟨w.heap.size, 1, none⟩ = some (.int .i64 c) ∧ w'.cell? ⟨w.heap.size, 2, none⟩ = some (.slice A n cp) ∧ w'.cell? ⟨w.heap.size + 1, 0, none⟩ = some (.int .i64 x.a) ∧ w'.cell? ⟨w.heap.size + 1, 1, none⟩ = some (.int .i64 x.b) ∧ w'.cell? ⟨w.heap.size + 1, 2, none⟩ = some (.int .i64 x.c) ∧ w'.cell? ⟨w.heap.size + 1, 3, none⟩ = some (.int .i64 x.d) ∧ w'.cell? ⟨w.heap.size + 1, 4, none⟩ = some (.int .i64 x.e) ∧ w'.cell? ⟨bW, 0, none⟩ = some (.int .i64 R) ∧ w'.cell? ⟨bW, 1, none⟩ = some (.int .i64 C) ∧ w'.cell? ⟨bW, 2, none⟩ = some (.slice AW k cpW) ∧ w'.cell? ⟨w3.heap.size, 0, none⟩ = some (.int .i64 r) ∧ w'.cell? ⟨w3.heap.size, 1, none⟩ = some (.int .i64 c) ∧ w'.cell? ⟨w3.heap.size, 2, none⟩ = some (.slice (some ⟨g4, 0, none⟩) n n) ∧ w'.cell? ⟨bG, 0, none⟩ = some (.int .i64 R) ∧ w'.cell? ⟨bG, 1, none⟩ = some (.int .i64 C) ∧ w'.cell? ⟨bG, 2, none⟩ = some (.slice AG k cpG)) (first | (with_reducible exact ⟨yk6_0_0, yk6_0_1, yk6_0_2, yk6_1_0, yk6_1_1, yk6_1_2, yk6_1_3, yk6_1_4, yk6_2_0, yk6_2_1, yk6_2_2, yk6_3_0, yk6_3_1, yk6_3_2, yk6_4_0, yk6_4_1, yk6_4_2⟩) | (with_reducible exact ⟨k6_0_0, k6_0_1, k6_0_2, k6_1_0, k6_1_1, k6_1_2, k6_1_3, k6_1_4, k6_2_0, k6_2_1, k6_2_2, k6_3_0, k6_3_1, k6_3_2, k6_4_0, k6_4_1, k6_4_2⟩) | (go_split_ands; with_reducible exact ⟨kc hv0 (by with_reducible assumption), kc hv0 (by with_reducible assumption), kc hv0 (by with_reducible assumption), kc hv0 (by with_reducible assumption), kc hv0 (by with_reducible assumption), kc hv0 (by with_reducible assumption), kc hv0 (by with_reducible assumption), kc hv0 (by with_reducible assumption), kc hv0 (by with_reducible assumption), kc hv0 (by with_reducible assumption), kc hv0 (by with_reducible assumption), kc hv0 (by with_reducible assumption), kc hv0 (by with_reducible assumption), kc hv0 (by with_reducible assumption), kc hv0 (by with_reducible assumption), kc hv0 (by with_reducible assumption), kc hv0 (by with_reducible assumption)⟩) | (go_split_ands; with_reducible exact ⟨kc hv1 (by with_reducible assumption), kc hv1 (by with_reducible assumption), kc hv1 (by with_reducible assumption), kc hv1 (by with_reducible assumption), kc hv1 (by with_reducible assumption), kc hv1 (by with_reducible assumption), kc hv1 (by with_reducible assumption), kc hv1 (by with_reducible assumption), kc hv1 (by with_reducible assumption), kc hv1 (by with_reducible assumption), kc hv1 (by with_reducible assumption), kc hv1 (by with_reducible assumption), kc hv1 (by with_reducible assumption), kc hv1 (by with_reducible assumption), kc hv1 (by with_reducible assumption), kc hv1 (by with_reducible assumption), kc hv1 (by with_reducible assumption)⟩)) (first | (go_at_call 29; ((with_reducible refine (tm (xs := xs) ?_ HN.out hb).mono ?_); (exact HA.out.mono (by (repeat' (first | (with_reducible exact Below.refl _ _) | (with_reducible assumption) | (with_reducible refine Below.alloc ?_ ?_ _) | (with_reducible refine Below.drew ?_) | (with_reducible refine below_drewN ?_ _) | (with_reducible refine Below.setCell ?_ ?_ _) | (with_reducible refine chain ?_ (by assumption) ?_) | omega | (simp; done) | (simp; omega))))); rintro ee v0 ⟨g7, rfl, hK0, hg7, hv0⟩; have hq0 := hv0.size; (try simp only [World.size_drew, World.size_alloc] at hq0))) | (go_at_call 30; ((with_reducible refine (eqm (xs := xs) ?_ ?_ HN.out hb).mono ?_); (exact HX6.out.rd.mono (by (repeat' (first | (with_reducible exact Below.refl _ _) | (with_reducible assumption) | (with_reducible refine Below.alloc ?_ ?_ _) | (with_reducible refine Below.drew ?_) | (with_reducible refine below_drewN ?_ _) | (with_reducible refine Below.setCell ?_ ?_ _) | (with_reducible refine chain ?_ (by assumption) ?_) | omega | (simp; done) | (simp; omega))))); (exact hK0.rd); rintro ee v1 ⟨rfl, hv1⟩; have hq1 := hv1.size; (try simp only [World.size_drew, World.size_alloc] at hq1))))
        all_goals (go_wp2_with fail; go_meet)
        all_goals go_split_ands
        all_goals (refine ⟨rfl, (by with_reducible assumption), (by with_reducible assumption), (by with_reducible assumption), (by with_reducible assumption), (by with_reducible assumption), (by with_reducible assumption), (by with_reducible assumption), (by with_reducible assumption), (by with_reducible assumption), (by with_reducible assumption), (by with_reducible assumption), (by with_reducible assumption), (by with_reducible assumption), (by with_reducible assumption), (by with_reducible assumption), (by with_reducible assumption), (by with_reducible assumption), (by exact HW6.out.mono (by (repeat' (first | (with_reducible exact Below.refl _ _) | (with_reducible assumption) | (with_reducible refine Below.alloc ?_ ?_ _) | (with_reducible refine Below.drew ?_) | (with_reducible refine below_drewN ?_ _) | (with_reducible refine Below.setCell ?_ ?_ _) | (with_reducible refine chain ?_ (by assumption) ?_) | omega | (simp; done) | (simp; omega))))), (by exact HX6.out.mono (by (repeat' (first | (with_reducible exact Below.refl _ _) | (with_reducible assumption) | (with_reducible refine Below.alloc ?_ ?_ _) | (with_reducible refine Below.drew ?_) | (with_reducible refine below_drewN ?_ _) | (with_reducible refine Below.setCell ?_ ?_ _) | (with_reducible refine chain ?_ (by assumption) ?_) | omega | (simp; done) | (simp; omega))))), (by exact HG6.out.mono (by (repeat' (first | (with_reducible exact Below.refl _ _) | (with_reducible assumption) | (with_reducible refine Below.alloc ?_ ?_ _) | (with_reducible refine Below.drew ?_) | (with_reducible refine below_drewN ?_ _) | (with_reducible refine Below.setCell ?_ ?_ _) | (with_reducible refine chain ?_ (by assumption) ?_) | omega | (simp; done) | (simp; omega))))), (by (try simp only [World.size_alloc, World.size_drew, World.size_setCell]); omega), (by (repeat' (first | (with_reducible exact Below.refl _ _) | (with_reducible assumption) | (with_reducible refine Below.alloc ?_ ?_ _) | (with_reducible refine Below.drew ?_) | (with_reducible refine below_drewN ?_ _) | (with_reducible refine Below.setCell ?_ ?_ _) | (with_reducible refine chain ?_ (by assumption) ?_) | omega | (simp; done) | (simp; omega))))⟩)
      case rest =>
        obtain ⟨w7, rfl⟩ : ∃ w7, w7 = wc := ⟨_, rfl⟩
        clear k6_0_0 k6_0_1 k6_0_2 k6_1_0 k6_1_1 k6_1_2 k6_1_3 k6_1_4 k6_2_0 k6_2_1 k6_2_2 k6_3_0 k6_3_1 k6_3_2 k6_4_0 k6_4_1 k6_4_2 HW6 HX6 HG6
        obtain ⟨rfl, k7_0_0, k7_0_1, k7_0_2, k7_1_0, k7_1_1, k7_1_2, k7_1_3, k7_1_4, k7_2_0, k7_2_1, k7_2_2, k7_3_0, k7_3_1, k7_3_2, k7_4_0, k7_4_1, k7_4_2, HW7, HX7, HG7, hz7, hB7⟩ := hcut
        have bl7_0 : w.heap.size < w7.heap.size := World.block_lt_of_cell? _ _ k7_0_0
        have bl7_1 : w.heap.size + 1 < w7.heap.size := World.block_lt_of_cell? _ _ k7_1_0
        have bl7_2 : bW < w7.heap.size := World.block_lt_of_cell? _ _ k7_2_0
        have bl7_3 : w3.heap.size < w7.heap.size := World.block_lt_of_cell? _ _ k7_3_0
        have bl7_4 : bG < w7.heap.size := World.block_lt_of_cell? _ _ k7_4_0
        go_wp2_with (fail)
        refine (mkm (B := w2.heap.size) (xs := xs) ?_ HN.out hb (by decide) (by decide)).mono ?_
        · exact HX7.out
        rintro ee w8 ⟨rfl, hO8, hG8⟩
        have hz8 := hG8.size
        have hB8 : Below w.heap.size w w8 := Below.grown hB7 hG8 hB7.size (fun r hr => by have := hr_X r hr; omega)
        have k8_0_0 : w8.cell? ⟨w.heap.size, 0, none⟩ = some (.int .i64 r) := hG8.cell k7_0_0 (fun e => by have := hr_X (w.heap.size) e.symm; omega)
        have k8_0_1 : w8.cell? ⟨w.heap.size, 1, none⟩ = some (.int .i64 c) := hG8.cell k7_0_1 (fun e => by have := hr_X (w.heap.size) e.symm; omega)
        have k8_0_2 : w8.cell? ⟨w.heap.size, 2, none⟩ = some (.slice A n cp) := hG8.cell k7_0_2 (fun e => by have := hr_X (w.heap.size) e.symm; omega)
        have k8_1_0 : w8.cell? ⟨w.heap.size + 1, 0, none⟩ = some (.int .i64 x.a) := hG8.cell k7_1_0 (fun e => by have := hr_X (w.heap.size + 1) e.symm; omega)
        have k8_1_1 : w8.cell? ⟨w.heap.size + 1, 1, none⟩ = some (.int .i64 x.b) := hG8.cell k7_1_1 (fun e => by have := hr_X (w.heap.size + 1) e.symm; omega)
        have k8_1_2 : w8.cell? ⟨w.heap.size + 1, 2, none⟩ = some (.int .i64 x.c) := hG8.cell k7_1_2 (fun e => by have := hr_X (w.heap.size + 1) e.symm; omega)
        have k8_1_3 : w8.cell? ⟨w.heap.size + 1, 3, none⟩ = some (.int .i64 x.d) := hG8.cell k7_1_3 (fun e => by have := hr_X (w.heap.size + 1) e.symm; omega)
        have k8_1_4 : w8.cell? ⟨w.heap.size + 1, 4, none⟩ = some (.int .i64 x.e) := hG8.cell k7_1_4 (fun e => by have := hr_X (w.heap.size + 1) e.symm; omega)
        have k8_2_0 : w8.cell? ⟨bW, 0, none⟩ = some (.int .i64 R) := hG8.cell k7_2_0 (fun e => by have := hr_X (bW) e.symm; omega)
        have k8_2_1 : w8.cell? ⟨bW, 1, none⟩ = some (.int .i64 C) := hG8.cell k7_2_1 (fun e => by have := hr_X (bW) e.symm; omega)
        have k8_2_2 : w8.cell? ⟨bW, 2, none⟩ = some (.slice AW k cpW) := hG8.cell k7_2_2 (fun e => by have := hr_X (bW) e.symm; omega)
        have k8_3_0 : w8.cell? ⟨w3.heap.size, 0, none⟩ = some (.int .i64 r) := hG8.cell k7_3_0 (fun e => by have := hr_X (w3.heap.size) e.symm; omega)
        have k8_3_1 : w8.cell? ⟨w3.heap.size, 1, none⟩ = some (.int .i64 c) := hG8.cell k7_3_1 (fun e => by have := hr_X (w3.heap.size) e.symm; omega)
        have k8_3_2 : w8.cell? ⟨w3.heap.size, 2, none⟩ = some (.slice (some ⟨g4, 0, none⟩) n n) := hG8.cell k7_3_2 (fun e => by have := hr_X (w3.heap.size) e.symm; omega)
        have k8_4_0 : w8.cell? ⟨bG, 0, none⟩ = some (.int .i64 R) := hG8.cell k7_4_0 (fun e => by have := hr_X (bG) e.symm; omega)
        have k8_4_1 : w8.cell? ⟨bG, 1, none⟩ = some (.int .i64 C) := hG8.cell k7_4_1 (fun e => by have := hr_X (bG) e.symm; omega)
        have k8_4_2 : w8.cell? ⟨bG, 2, none⟩ = some (.slice AG k cpG) := hG8.cell k7_4_2 (fun e => by have := hr_X (bG) e.symm; omega)
        have HW8 := hid (HW7.out.grown hG8 (fun r hr => by have := hr_X r hr; omega))
        have HG8 := hid (HG7.out.grown hG8 (fun r hr => by have := hr_X r hr; omega))
        have bl8_0 : w.heap.size < w8.heap.size := World.block_lt_of_cell? _ _ k8_0_0
        have bl8_1 : w.heap.size + 1 < w8.heap.size := World.block_lt_of_cell? _ _ k8_1_0
        have bl8_2 : bW < w8.heap.size := World.block_lt_of_cell? _ _ k8_2_0
        have bl8_3 : w3.heap.size < w8.heap.size := World.block_lt_of_cell? _ _ k8_3_0
        have bl8_4 : bG < w8.heap.size := World.block_lt_of_cell? _ _ k8_4_0
        have HX8 := hid hO8
        clear hO8 hG8
        clear k7_0_0 k7_0_1 k7_0_2 k7_1_0 k7_1_1 k7_1_2 k7_1_3 k7_1_4 k7_2_0 k7_2_1 k7_2_2 k7_3_0 k7_3_1 k7_3_2 k7_4_0 k7_4_1 k7_4_2 HW7 HG7 HX7
        clear HX8
        go_wp2_with (fail)
        refine (eqm (xs := zs) ?_ ?_ HZ.out hk).mono ?_
        · exact HG8.out.rd.mono (by (repeat' (first | (with_reducible exact Below.refl _ _) | (with_reducible assumption) | (with_reducible refine Below.alloc ?_ ?_ _) | (with_reducible refine Below.drew ?_) | (with_reducible refine below_drewN ?_ _) | (with_reducible refine Below.setCell ?_ ?_ _) | (with_reducible refine chain ?_ (by assumption) ?_) | omega | (simp; done) | (simp; omega))))
        · exact HW8.out.rd.mono (by (repeat' (first | (with_reducible exact Below.refl _ _) | (with_reducible assumption) | (with_reducible refine Below.alloc ?_ ?_ _) | (with_reducible refine Below.drew ?_) | (with_reducible refine below_drewN ?_ _) | (with_reducible refine Below.setCell ?_ ?_ _) | (with_reducible refine chain ?_ (by assumption) ?_) | omega | (simp; done) | (simp; omega))))
        rintro ee w9 ⟨rfl, hb9⟩
        have hL9 : Below w8.heap.size w8 w9 := by (repeat' (first | (with_reducible exact Below.refl _ _) | (with_reducible assumption) | (with_reducible refine Below.alloc ?_ ?_ _) | (with_reducible refine Below.drew ?_) | (with_reducible refine below_drewN ?_ _) | (with_reducible refine Below.setCell ?_ ?_ _) | (with_reducible refine chain ?_ (by assumption) ?_) | omega | (simp; done) | (simp; omega)))
        have hz9 := hb9.size
        (try simp only [World.size_alloc] at hz9)
        have hB9 : Below w.heap.size w w9 := chain hB8 hL9 hB8.size
        have k9_0_0 : w9.cell? ⟨w.heap.size, 0, none⟩ = some (.int .i64 r) := (hL9.cell (p := ⟨w.heap.size, 0, none⟩) (by show w.heap.size < w8.heap.size; omega)).trans k8_0_0
        have k9_0_1 : w9.cell? ⟨w.heap.size, 1, none⟩ = some (.int .i64 c) := (hL9.cell (p := ⟨w.heap.size, 1, none⟩) (by show w.heap.size < w8.heap.size; omega)).trans k8_0_1
        have k9_0_2 : w9.cell? ⟨w.heap.size, 2, none⟩ = some (.slice A n cp) := (hL9.cell (p := ⟨w.heap.size, 2, none⟩) (by show w.heap.size < w8.heap.size; omega)).trans k8_0_2
        have k9_1_0 : w9.cell? ⟨w.heap.size + 1, 0, none⟩ = some (.int .i64 x.a) := (hL9.cell (p := ⟨w.heap.size + 1, 0, none⟩) (by show w.heap.size + 1 < w8.heap.size; omega)).trans k8_1_0
        have k9_1_1 : w9.cell? ⟨w.heap.size + 1, 1, none⟩ = some (.int .i64 x.b) := (hL9.cell (p := ⟨w.heap.size + 1, 1, none⟩) (by show w.heap.size + 1 < w8.heap.size; omega)).trans k8_1_1
        have k9_1_2 : w9.cell? ⟨w.heap.size + 1, 2, none⟩ = some (.int .i64 x.c) := (hL9.cell (p := ⟨w.heap.size + 1, 2, none⟩) (by show w.heap.size + 1 < w8.heap.size; omega)).trans k8_1_2
        have k9_1_3 : w9.cell? ⟨w.heap.size + 1, 3, none⟩ = some (.int .i64 x.d) := (hL9.cell (p := ⟨w.heap.size + 1, 3, none⟩) (by show w.heap.size + 1 < w8.heap.size; omega)).trans k8_1_3
        have k9_1_4 : w9.cell? ⟨w.heap.size + 1, 4, none⟩ = some (.int .i64 x.e) := (hL9.cell (p := ⟨w.heap.size + 1, 4, none⟩) (by show w.heap.size + 1 < w8.heap.size; omega)).trans k8_1_4
        have k9_2_0 : w9.cell? ⟨bW, 0, none⟩ = some (.int .i64 R) := (hL9.cell (p := ⟨bW, 0, none⟩) (by show bW < w8.heap.size; omega)).trans k8_2_0
        have k9_2_1 : w9.cell? ⟨bW, 1, none⟩ = some (.int .i64 C) := (hL9.cell (p := ⟨bW, 1, none⟩) (by show bW < w8.heap.size; omega)).trans k8_2_1
        have k9_2_2 : w9.cell? ⟨bW, 2, none⟩ = some (.slice AW k cpW) := (hL9.cell (p := ⟨bW, 2, none⟩) (by show bW < w8.heap.size; omega)).trans k8_2_2
        have k9_3_0 : w9.cell? ⟨w3.heap.size, 0, none⟩ = some (.int .i64 r) := (hL9.cell (p := ⟨w3.heap.size, 0, none⟩) (by show w3.heap.size < w8.heap.size; omega)).trans k8_3_0
        have k9_3_1 : w9.cell? ⟨w3.heap.size, 1, none⟩ = some (.int .i64 c) := (hL9.cell (p := ⟨w3.heap.size, 1, none⟩) (by show w3.heap.size < w8.heap.size; omega)).trans k8_3_1
        have k9_3_2 : w9.cell? ⟨w3.heap.size, 2, none⟩ = some (.slice (some ⟨g4, 0, none⟩) n n) := (hL9.cell (p := ⟨w3.heap.size, 2, none⟩) (by show w3.heap.size < w8.heap.size; omega)).trans k8_3_2
        have k9_4_0 : w9.cell? ⟨bG, 0, none⟩ = some (.int .i64 R) := (hL9.cell (p := ⟨bG, 0, none⟩) (by show bG < w8.heap.size; omega)).trans k8_4_0
        have k9_4_1 : w9.cell? ⟨bG, 1, none⟩ = some (.int .i64 C) := (hL9.cell (p := ⟨bG, 1, none⟩) (by show bG < w8.heap.size; omega)).trans k8_4_1
        have k9_4_2 : w9.cell? ⟨bG, 2, none⟩ = some (.slice AG k cpG) := (hL9.cell (p := ⟨bG, 2, none⟩) (by show bG < w8.heap.size; omega)).trans k8_4_2
        have bl9_0 : w.heap.size < w9.heap.size := World.block_lt_of_cell? _ _ k9_0_0
        have bl9_1 : w.heap.size + 1 < w9.heap.size := World.block_lt_of_cell? _ _ k9_1_0
        have bl9_2 : bW < w9.heap.size := World.block_lt_of_cell? _ _ k9_2_0
        have bl9_3 : w3.heap.size < w9.heap.size := World.block_lt_of_cell? _ _ k9_3_0
        have bl9_4 : bG < w9.heap.size := World.block_lt_of_cell? _ _ k9_4_0
        have HW9 := hid (HW8.out.mono hL9)
        have HG9 := hid (HG8.out.mono hL9)
        clear hb9 hL9
        clear k8_0_0 k8_0_1 k8_0_2 k8_1_0 k8_1_1 k8_1_2 k8_1_3 k8_1_4 k8_2_0 k8_2_1 k8_2_2 k8_3_0 k8_3_1 k8_3_2 k8_4_0 k8_4_1 k8_4_2 HW8 HG8
        go_wp2_with (fail)
        refine (mkm (B := w4.heap.size) (xs := zs) ?_ HZ.out hk (by decide) (by decide)).mono ?_
        · exact HG9.out
        rintro ee w10 ⟨rfl, hO10, hG10⟩
        have hz10 := hG10.size
        have hB10 : Below w.heap.size w w10 := Below.grown hB9 hG10 hB9.size (fun r hr => by have := hr_G r hr; omega)
        have k10_0_0 : w10.cell? ⟨w.heap.size, 0, none⟩ = some (.int .i64 r) := hG10.cell k9_0_0 (fun e => by have := hr_G (w.heap.size) e.symm; omega)
        have k10_0_1 : w10.cell? ⟨w.heap.size, 1, none⟩ = some (.int .i64 c) := hG10.cell k9_0_1 (fun e => by have := hr_G (w.heap.size) e.symm; omega)
        have k10_0_2 : w10.cell? ⟨w.heap.size, 2, none⟩ = some (.slice A n cp) := hG10.cell k9_0_2 (fun e => by have := hr_G (w.heap.size) e.symm; omega)
        have k10_1_0 : w10.cell? ⟨w.heap.size + 1, 0, none⟩ = some (.int .i64 x.a) := hG10.cell k9_1_0 (fun e => by have := hr_G (w.heap.size + 1) e.symm; omega)
        have k10_1_1 : w10.cell? ⟨w.heap.size + 1, 1, none⟩ = some (.int .i64 x.b) := hG10.cell k9_1_1 (fun e => by have := hr_G (w.heap.size + 1) e.symm; omega)
        have k10_1_2 : w10.cell? ⟨w.heap.size + 1, 2, none⟩ = some (.int .i64 x.c) := hG10.cell k9_1_2 (fun e => by have := hr_G (w.heap.size + 1) e.symm; omega)
        have k10_1_3 : w10.cell? ⟨w.heap.size + 1, 3, none⟩ = some (.int .i64 x.d) := hG10.cell k9_1_3 (fun e => by have := hr_G (w.heap.size + 1) e.symm; omega)
        have k10_1_4 : w10.cell? ⟨w.heap.size + 1, 4, none⟩ = some (.int .i64 x.e) := hG10.cell k9_1_4 (fun e => by have := hr_G (w.heap.size + 1) e.symm; omega)
        have k10_2_0 : w10.cell? ⟨bW, 0, none⟩ = some (.int .i64 R) := hG10.cell k9_2_0 (fun e => by have := hr_G (bW) e.symm; omega)
        have k10_2_1 : w10.cell? ⟨bW, 1, none⟩ = some (.int .i64 C) := hG10.cell k9_2_1 (fun e => by have := hr_G (bW) e.symm; omega)
        have k10_2_2 : w10.cell? ⟨bW, 2, none⟩ = some (.slice AW k cpW) := hG10.cell k9_2_2 (fun e => by have := hr_G (bW) e.symm; omega)
        have k10_3_0 : w10.cell? ⟨w3.heap.size, 0, none⟩ = some (.int .i64 r) := hG10.cell k9_3_0 (fun e => by have := hr_G (w3.heap.size) e.symm; omega)
        have k10_3_1 : w10.cell? ⟨w3.heap.size, 1, none⟩ = some (.int .i64 c) := hG10.cell k9_3_1 (fun e => by have := hr_G (w3.heap.size) e.symm; omega)
        have k10_3_2 : w10.cell? ⟨w3.heap.size, 2, none⟩ = some (.slice (some ⟨g4, 0, none⟩) n n) := hG10.cell k9_3_2 (fun e => by have := hr_G (w3.heap.size) e.symm; omega)
        have k10_4_0 : w10.cell? ⟨bG, 0, none⟩ = some (.int .i64 R) := hG10.cell k9_4_0 (fun e => by have := hr_G (bG) e.symm; omega)
        have k10_4_1 : w10.cell? ⟨bG, 1, none⟩ = some (.int .i64 C) := hG10.cell k9_4_1 (fun e => by have := hr_G (bG) e.symm; omega)
        have k10_4_2 : w10.cell? ⟨bG, 2, none⟩ = some (.slice AG k cpG) := hG10.cell k9_4_2 (fun e => by have := hr_G (bG) e.symm; omega)
        have HW10 := hid (HW9.out.grown hG10 (fun r hr => by have := hr_G r hr; omega))
        have bl10_0 : w.heap.size < w10.heap.size := World.block_lt_of_cell? _ _ k10_0_0
        have bl10_1 : w.heap.size + 1 < w10.heap.size := World.block_lt_of_cell? _ _ k10_1_0
        have bl10_2 : bW < w10.heap.size := World.block_lt_of_cell? _ _ k10_2_0
        have bl10_3 : w3.heap.size < w10.heap.size := World.block_lt_of_cell? _ _ k10_3_0
        have bl10_4 : bG < w10.heap.size := World.block_lt_of_cell? _ _ k10_4_0
        have HG10 := hid hO10
        clear hO10 hG10
        clear k9_0_0 k9_0_1 k9_0_2 k9_1_0 k9_1_1 k9_1_2 k9_1_3 k9_1_4 k9_2_0 k9_2_1 k9_2_2 k9_3_0 k9_3_1 k9_3_2 k9_4_0 k9_4_1 k9_4_2 HW9 HG9
        go_wp2_with (fail)
        refine (hdm ?_ hk (by decide) (by decide)).mono ?_
        · exact HG10.out.rd.mono (by (repeat' (first | (with_reducible exact Below.refl _ _) | (with_reducible assumption) | (with_reducible refine Below.alloc ?_ ?_ _) | (with_reducible refine Below.drew ?_) | (with_reducible refine below_drewN ?_ _) | (with_reducible refine Below.setCell ?_ ?_ _) | (with_reducible refine chain ?_ (by assumption) ?_) | omega | (simp; done) | (simp; omega))))
        rintro ee w11 ⟨rfl, hb11⟩
        have hL11 : Below w10.heap.size w10 w11 := by (repeat' (first | (with_reducible exact Below.refl _ _) | (with_reducible assumption) | (with_reducible refine Below.alloc ?_ ?_ _) | (with_reducible refine Below.drew ?_) | (with_reducible refine below_drewN ?_ _) | (with_reducible refine Below.setCell ?_ ?_ _) | (with_reducible refine chain ?_ (by assumption) ?_) | omega | (simp; done) | (simp; omega)))
        have hz11 := hb11.size
        (try simp only [World.size_alloc] at hz11)
        have hB11 : Below w.heap.size w w11 := chain hB10 hL11 hB10.size
        have k11_0_0 : w11.cell? ⟨w.heap.size, 0, none⟩ = some (.int .i64 r) := (hL11.cell (p := ⟨w.heap.size, 0, none⟩) (by show w.heap.size < w10.heap.size; omega)).trans k10_0_0
        have k11_0_1 : w11.cell? ⟨w.heap.size, 1, none⟩ = some (.int .i64 c) := (hL11.cell (p := ⟨w.heap.size, 1, none⟩) (by show w.heap.size < w10.heap.size; omega)).trans k10_0_1
        have k11_0_2 : w11.cell? ⟨w.heap.size, 2, none⟩ = some (.slice A n cp) := (hL11.cell (p := ⟨w.heap.size, 2, none⟩) (by show w.heap.size < w10.heap.size; omega)).trans k10_0_2
        have k11_1_0 : w11.cell? ⟨w.heap.size + 1, 0, none⟩ = some (.int .i64 x.a) := (hL11.cell (p := ⟨w.heap.size + 1, 0, none⟩) (by show w.heap.size + 1 < w10.heap.size; omega)).trans k10_1_0
        have k11_1_1 : w11.cell? ⟨w.heap.size + 1, 1, none⟩ = some (.int .i64 x.b) := (hL11.cell (p := ⟨w.heap.size + 1, 1, none⟩) (by show w.heap.size + 1 < w10.heap.size; omega)).trans k10_1_1
        have k11_1_2 : w11.cell? ⟨w.heap.size + 1, 2, none⟩ = some (.int .i64 x.c) := (hL11.cell (p := ⟨w.heap.size + 1, 2, none⟩) (by show w.heap.size + 1 < w10.heap.size; omega)).trans k10_1_2
        have k11_1_3 : w11.cell? ⟨w.heap.size + 1, 3, none⟩ = some (.int .i64 x.d) := (hL11.cell (p := ⟨w.heap.size + 1, 3, none⟩) (by show w.heap.size + 1 < w10.heap.size; omega)).trans k10_1_3
        have k11_1_4 : w11.cell? ⟨w.heap.size + 1, 4, none⟩ = some (.int .i64 x.e) := (hL11.cell (p := ⟨w.heap.size + 1, 4, none⟩) (by show w.heap.size + 1 < w10.heap.size; omega)).trans k10_1_4
        have k11_2_0 : w11.cell? ⟨bW, 0, none⟩ = some (.int .i64 R) := (hL11.cell (p := ⟨bW, 0, none⟩) (by show bW < w10.heap.size; omega)).trans k10_2_0
        have k11_2_1 : w11.cell? ⟨bW, 1, none⟩ = some (.int .i64 C) := (hL11.cell (p := ⟨bW, 1, none⟩) (by show bW < w10.heap.size; omega)).trans k10_2_1
        have k11_2_2 : w11.cell? ⟨bW, 2, none⟩ = some (.slice AW k cpW) := (hL11.cell (p := ⟨bW, 2, none⟩) (by show bW < w10.heap.size; omega)).trans k10_2_2
        have k11_3_0 : w11.cell? ⟨w3.heap.size, 0, none⟩ = some (.int .i64 r) := (hL11.cell (p := ⟨w3.heap.size, 0, none⟩) (by show w3.heap.size < w10.heap.size; omega)).trans k10_3_0
        have k11_3_1 : w11.cell? ⟨w3.heap.size, 1, none⟩ = some (.int .i64 c) := (hL11.cell (p := ⟨w3.heap.size, 1, none⟩) (by show w3.heap.size < w10.heap.size; omega)).trans k10_3_1
        have k11_3_2 : w11.cell? ⟨w3.heap.size, 2, none⟩ = some (.slice (some ⟨g4, 0, none⟩) n n) := (hL11.cell (p := ⟨w3.heap.size, 2, none⟩) (by show w3.heap.size < w10.heap.size; omega)).trans k10_3_2
        have k11_4_0 : w11.cell? ⟨bG, 0, none⟩ = some (.int .i64 R) := (hL11.cell (p := ⟨bG, 0, none⟩) (by show bG < w10.heap.size; omega)).trans k10_4_0
        have k11_4_1 : w11.cell? ⟨bG, 1, none⟩ = some (.int .i64 C) := (hL11.cell (p := ⟨bG, 1, none⟩) (by show bG < w10.heap.size; omega)).trans k10_4_1
        have k11_4_2 : w11.cell? ⟨bG, 2, none⟩ = some (.slice AG k cpG) := (hL11.cell (p := ⟨bG, 2, none⟩) (by show bG < w10.heap.size; omega)).trans k10_4_2
        have bl11_0 : w.heap.size < w11.heap.size := World.block_lt_of_cell? _ _ k11_0_0
        have bl11_1 : w.heap.size + 1 < w11.heap.size := World.block_lt_of_cell? _ _ k11_1_0
        have bl11_2 : bW < w11.heap.size := World.block_lt_of_cell? _ _ k11_2_0
        have bl11_3 : w3.heap.size < w11.heap.size := World.block_lt_of_cell? _ _ k11_3_0
        have bl11_4 : bG < w11.heap.size := World.block_lt_of_cell? _ _ k11_4_0
        have HW11 := hid (HW10.out.mono hL11)
        have HG11 := hid (HG10.out.mono hL11)
        clear hb11 hL11
        clear k10_0_0 k10_0_1 k10_0_2 k10_1_0 k10_1_1 k10_1_2 k10_1_3 k10_1_4 k10_2_0 k10_2_1 k10_2_2 k10_3_0 k10_3_1 k10_3_2 k10_4_0 k10_4_1 k10_4_2 HW10 HG10
        go_wp2_with (fail)
        go_cut [14, 15] (fun s14 s15 wx => CutG (∃ (b : Nat) (A : Option Addr) (cp : Nat), s14 = .pointer (some ⟨b, 0, none⟩) ∧ s15 = .bool ok ∧ wx.cell? ⟨b, 0, none⟩ = some (.int .i64 R) ∧ wx.cell? ⟨b, 1, none⟩ = some (.int .i64 C) ∧ wx.cell? ⟨b, 2, none⟩ = some (.slice A k cp) ∧ Hid (RdB wx wx.heap.size A zs)) (wx.cell? ⟨w.heap.size, 0, none⟩ = some (.int .i64 r) ∧ wx.cell? ⟨w.heap.size, 1, none⟩ = some (.int .i64 c) ∧ wx.cell? ⟨w.heap.size, 2, none⟩ = some (.slice A n cp) ∧ wx.cell? ⟨w.heap.size + 1, 0, none⟩ = some (.int .i64 x.a) ∧ wx.cell? ⟨w.heap.size + 1, 1, none⟩ = some (.int .i64 x.b) ∧ wx.cell? ⟨w.heap.size + 1, 2, none⟩ = some (.int .i64 x.c) ∧ wx.cell? ⟨w.heap.size + 1, 3, none⟩ = some (.int .i64 x.d) ∧ wx.cell? ⟨w.heap.size + 1, 4, none⟩ = some (.int .i64 x.e) ∧ wx.cell? ⟨bW, 0, none⟩ = some (.int .i64 R) ∧ wx.cell? ⟨bW, 1, none⟩ = some (.int .i64 C) ∧ wx.cell? ⟨bW, 2, none⟩ = some (.slice AW k cpW) ∧ wx.cell? ⟨w3.heap.size, 0, none⟩ = some (.int .i64 r) ∧ wx.cell? ⟨w3.heap.size, 1, none⟩ = some (.int .i64 c) ∧ wx.cell? ⟨w3.heap.size, 2, none⟩ = some (.slice (some ⟨g4, 0, none⟩) n n) ∧ wx.cell? ⟨bG, 0, none⟩ = some (.int .i64 R) ∧ wx.cell? ⟨bG, 1, none⟩ = some (.int .i64 C) ∧ wx.cell? ⟨bG, 2, none⟩ = some (.slice AG k cpG) ∧ Hid (RdB wx w2.heap.size AW zs) ∧ Hid (Ow wx w4.heap.size 37 AG (mks 1 k)) ∧ w11.heap.size ≤ wx.heap.size ∧ Below w.heap.size w wx))
        case first =>
          have yk11_0_0 : w11.drew.cell? ⟨w.heap.size, 0, none⟩ = some (.int .i64 r) := k11_0_0
          have yk11_0_1 : w11.drew.cell? ⟨w.heap.size, 1, none⟩ = some (.int .i64 c) := k11_0_1
          have yk11_0_2 : w11.drew.cell? ⟨w.heap.size, 2, none⟩ = some (.slice A n cp) := k11_0_2
          have yk11_1_0 : w11.drew.cell? ⟨w.heap.size + 1, 0, none⟩ = some (.int .i64 x.a) := k11_1_0
          have yk11_1_1 : w11.drew.cell? ⟨w.heap.size + 1, 1, none⟩ = some (.int .i64 x.b) := k11_1_1
          have yk11_1_2 : w11.drew.cell? ⟨w.heap.size + 1, 2, none⟩ = some (.int .i64 x.c) := k11_1_2
          have yk11_1_3 : w11.drew.cell? ⟨w.heap.size + 1, 3, none⟩ = some (.int .i64 x.d) := k11_1_3
          have yk11_1_4 : w11.drew.cell? ⟨w.heap.size + 1, 4, none⟩ = some (.int .i64 x.e) := k11_1_4
          have yk11_2_0 : w11.drew.cell? ⟨bW, 0, none⟩ = some (.int .i64 R) := k11_2_0
          have yk11_2_1 : w11.drew.cell? ⟨bW, 1, none⟩ = some (.int .i64 C) := k11_2_1
          have yk11_2_2 : w11.drew.cell? ⟨bW, 2, none⟩ = some (.slice AW k cpW) := k11_2_2
          have yk11_3_0 : w11.drew.cell? ⟨w3.heap.size, 0, none⟩ = some (.int .i64 r) := k11_3_0
          have yk11_3_1 : w11.drew.cell? ⟨w3.heap.size, 1, none⟩ = some (.int .i64 c) := k11_3_1
          have yk11_3_2 : w11.drew.cell? ⟨w3.heap.size, 2, none⟩ = some (.slice (some ⟨g4, 0, none⟩) n n) := k11_3_2
          have yk11_4_0 : w11.drew.cell? ⟨bG, 0, none⟩ = some (.int .i64 R) := k11_4_0
          have yk11_4_1 : w11.drew.cell? ⟨bG, 1, none⟩ = some (.int .i64 C) := k11_4_1
          have yk11_4_2 : w11.drew.cell? ⟨bG, 2, none⟩ = some (.slice AG k cpG) := k11_4_2
          have hBz := hB11.size
          go_region_held3 (fun w' => w'.cell? ⟨w.heap.size, 0, none⟩ = some (.int .i64 r) ∧ w'.cell? ⟨w.heap.size, 1, none⟩ = some (.int .i64 c) ∧ w'.cell? ⟨w.heap.size, 2, none⟩ = some (.slice A n cp) ∧ w'.cell? ⟨w.heap.size + 1, 0, none⟩ = some (.int .i64 x.a) ∧ w'.cell? ⟨w.heap.size + 1, 1, none⟩ = some (.int .i64 x.b) ∧ w'.cell? ⟨w.heap.size + 1, 2, none⟩ = some (.int .i64 x.c) ∧ w'.cell? ⟨w.heap.size + 1, 3, none⟩ = some (.int .i64 x.d) ∧ w'.cell? ⟨w.heap.size + 1, 4, none⟩ = some (.int .i64 x.e) ∧ w'.cell? ⟨bW, 0, none⟩ = some (.int .i64 R) ∧ w'.cell? ⟨bW, 1, none⟩ = some (.int .i64 C) ∧ w'.cell? ⟨bW, 2, none⟩ = some (.slice AW k cpW) ∧ w'.cell? ⟨w3.heap.size, 0, none⟩ = some (.int .i64 r) ∧ w'.cell? ⟨w3.heap.size, 1, none⟩ = some (.int .i64 c) ∧ w'.cell? ⟨w3.heap.size, 2, none⟩ = some (.slice (some ⟨g4, 0, none⟩) n n) ∧ w'.cell? ⟨bG, 0, none⟩ = some (.int .i64 R) ∧ w'.cell? ⟨bG, 1, none⟩ = some (.int .i64 C) ∧ w'.cell? ⟨bG, 2, none⟩ = some (.slice AG k cpG)) (first | (with_reducible exact ⟨yk11_0_0, yk11_0_1, yk11_0_2, yk11_1_0, yk11_1_1, yk11_1_2, yk11_1_3, yk11_1_4, yk11_2_0, yk11_2_1, yk11_2_2, yk11_3_0, yk11_3_1, yk11_3_2, yk11_4_0, yk11_4_1, yk11_4_2⟩) | (with_reducible exact ⟨k11_0_0, k11_0_1, k11_0_2, k11_1_0, k11_1_1, k11_1_2, k11_1_3, k11_1_4, k11_2_0, k11_2_1, k11_2_2, k11_3_0, k11_3_1, k11_3_2, k11_4_0, k11_4_1, k11_4_2⟩) | (go_split_ands; with_reducible exact ⟨kc hv0 (by with_reducible assumption), kc hv0 (by with_reducible assumption), kc hv0 (by with_reducible assumption), kc hv0 (by with_reducible assumption), kc hv0 (by with_reducible assumption), kc hv0 (by with_reducible assumption), kc hv0 (by with_reducible assumption), kc hv0 (by with_reducible assumption), kc hv0 (by with_reducible assumption), kc hv0 (by with_reducible assumption), kc hv0 (by with_reducible assumption), kc hv0 (by with_reducible assumption), kc hv0 (by with_reducible assumption), kc hv0 (by with_reducible assumption), kc hv0 (by with_reducible assumption), kc hv0 (by with_reducible assumption), kc hv0 (by with_reducible assumption)⟩) | (go_split_ands; with_reducible exact ⟨kc hv1 (by with_reducible assumption), kc hv1 (by with_reducible assumption), kc hv1 (by with_reducible assumption), kc hv1 (by with_reducible assumption), kc hv1 (by with_reducible assumption), kc hv1 (by with_reducible assumption), kc hv1 (by with_reducible assumption), kc hv1 (by with_reducible assumption), kc hv1 (by with_reducible assumption), kc hv1 (by with_reducible assumption), kc hv1 (by with_reducible assumption), kc hv1 (by with_reducible assumption), kc hv1 (by with_reducible assumption), kc hv1 (by with_reducible assumption), kc hv1 (by with_reducible assumption), kc hv1 (by with_reducible assumption), kc hv1 (by with_reducible assumption)⟩) | (go_split_ands; with_reducible exact ⟨kc hv2 (by with_reducible assumption), kc hv2 (by with_reducible assumption), kc hv2 (by with_reducible assumption), kc hv2 (by with_reducible assumption), kc hv2 (by with_reducible assumption), kc hv2 (by with_reducible assumption), kc hv2 (by with_reducible assumption), kc hv2 (by with_reducible assumption), kc hv2 (by with_reducible assumption), kc hv2 (by with_reducible assumption), kc hv2 (by with_reducible assumption), kc hv2 (by with_reducible assumption), kc hv2 (by with_reducible assumption), kc hv2 (by with_reducible assumption), kc hv2 (by with_reducible assumption), kc hv2 (by with_reducible assumption), kc hv2 (by with_reducible assumption)⟩) | (go_split_ands; with_reducible exact ⟨kal (by with_reducible assumption), kal (by with_reducible assumption), kal (by with_reducible assumption), kal (by with_reducible assumption), kal (by with_reducible assumption), kal (by with_reducible assumption), kal (by with_reducible assumption), kal (by with_reducible assumption), kal (by with_reducible assumption), kal (by with_reducible assumption), kal (by with_reducible assumption), kal (by with_reducible assumption), kal (by with_reducible assumption), kal (by with_reducible assumption), kal (by with_reducible assumption), kal (by with_reducible assumption), kal (by with_reducible assumption)⟩) | (go_split_ands; with_reducible exact ⟨kald (by with_reducible assumption), kald (by with_reducible assumption), kald (by with_reducible assumption), kald (by with_reducible assumption), kald (by with_reducible assumption), kald (by with_reducible assumption), kald (by with_reducible assumption), kald (by with_reducible assumption), kald (by with_reducible assumption), kald (by with_reducible assumption), kald (by with_reducible assumption), kald (by with_reducible assumption), kald (by with_reducible assumption), kald (by with_reducible assumption), kald (by with_reducible assumption), kald (by with_reducible assumption), kald (by with_reducible assumption)⟩) | (go_split_ands; with_reducible exact ⟨kre (by omega) (by with_reducible assumption), kre (by omega) (by with_reducible assumption), kre (by omega) (by with_reducible assumption), kre (by omega) (by with_reducible assumption), kre (by omega) (by with_reducible assumption), kre (by omega) (by with_reducible assumption), kre (by omega) (by with_reducible assumption), kre (by omega) (by with_reducible assumption), kre (by omega) (by with_reducible assumption), kre (by omega) (by with_reducible assumption), kre (by omega) (by with_reducible assumption), kre (by omega) (by with_reducible assumption), kre (by omega) (by with_reducible assumption), kre (by omega) (by with_reducible assumption), kre (by omega) (by with_reducible assumption), kre (by omega) (by with_reducible assumption), kre (by omega) (by with_reducible assumption)⟩) | (go_split_ands; with_reducible exact ⟨kst3 (by omega) (by with_reducible assumption), kst3 (by omega) (by with_reducible assumption), kst3 (by omega) (by with_reducible assumption), kst3 (by omega) (by with_reducible assumption), kst3 (by omega) (by with_reducible assumption), kst3 (by omega) (by with_reducible assumption), kst3 (by omega) (by with_reducible assumption), kst3 (by omega) (by with_reducible assumption), kst3 (by omega) (by with_reducible assumption), kst3 (by omega) (by with_reducible assumption), kst3 (by omega) (by with_reducible assumption), kst3 (by omega) (by with_reducible assumption), kst3 (by omega) (by with_reducible assumption), kst3 (by omega) (by with_reducible assumption), kst3 (by omega) (by with_reducible assumption), kst3 (by omega) (by with_reducible assumption), kst3 (by omega) (by with_reducible assumption)⟩)) (first | (go_at_call 29; ((with_reducible refine (tm (xs := xs) ?_ HN.out hb).mono ?_); (exact HA.out.mono (by (repeat' (first | (with_reducible exact Below.refl _ _) | (with_reducible assumption) | (with_reducible refine Below.alloc ?_ ?_ _) | (with_reducible refine Below.drew ?_) | (with_reducible refine below_drewN ?_ _) | (with_reducible refine Below.setCell ?_ ?_ _) | (with_reducible refine chain ?_ (by assumption) ?_) | omega | (simp; done) | (simp; omega))))); rintro ee v0 ⟨g0, rfl, hK0, hg0, hv0⟩; obtain ⟨hcv0, hfv0, _⟩ := bcell hv0; have hq0 := hv0.size; (try simp only [World.size_drew, World.size_alloc] at hq0); (try have ho0_0 : w11.heap.size < v0.heap.size := (by omega)); (try have ho0_1 : v1.heap.size < v0.heap.size := (by omega)); (try have ho0_2 : v2.heap.size < v0.heap.size := (by omega)))) | (go_at_call 36; ((with_reducible refine (td _ _ _ _ _ _).mono ?_); rintro ee v1 ⟨rfl, hv1⟩; obtain ⟨hcv1, hfv1, _⟩ := bcell hv1; have hq1 := hv1.size; (try simp only [World.size_drew, World.size_alloc] at hq1); (try have ho1_0 : w11.heap.size < v1.heap.size := (by omega)); (try have ho1_1 : v0.heap.size < v1.heap.size := (by omega)); (try have ho1_2 : v2.heap.size < v1.heap.size := (by omega)))) | (go_at_call 37; ((with_reducible refine (HI.out _ _ ?_).mono ?_); (exact (by exact hK0.rd.mono (by (repeat' (first | (with_reducible exact Below.refl _ _) | (with_reducible assumption) | (with_reducible refine Below.alloc ?_ ?_ _) | (with_reducible refine Below.drew ?_) | (with_reducible refine below_drewN ?_ _) | (with_reducible refine Below.setCell ?_ ?_ _) | (with_reducible refine chain ?_ (by assumption) ?_) | omega | (simp; done) | (simp; omega)))))); rintro ee v2 ⟨A3, cp3, rfl, hO3, hv2⟩; obtain ⟨hcv2, hfv2, _⟩ := bcell hv2; have hq2 := hv2.size; (try simp only [World.size_drew, World.size_alloc] at hq2); (try have ho2_0 : w11.heap.size < v2.heap.size := (by omega)); (try have ho2_1 : v0.heap.size < v2.heap.size := (by omega)); (try have ho2_2 : v1.heap.size < v2.heap.size := (by omega)))))
          all_goals (go_wp2_with fail; go_meet)
          all_goals go_split_ands
          all_goals ((have hR3 := hO3.rd); (have hA3 := hO3.low); refine ⟨⟨_, A3, cp3, rfl, rfl, (by first | (go_simp; done) | (simp [*]; done)), (by first | (go_simp; done) | (simp [*]; done)), (by first | (go_simp; done) | (simp [*]; done)), (by exact Rd.b (by (repeat' (first | (with_reducible assumption) | (refine Rd.far ?_ (fun a ha => by have h9 := hA3 a ha; (try simp only [World.size_drew, World.size_alloc] at h9); dsimp only; omega) _) | (exact hR3.mono (by (repeat' (first | (with_reducible exact Below.refl _ _) | (with_reducible assumption) | (with_reducible refine Below.alloc ?_ ?_ _) | (with_reducible refine Below.drew ?_) | (with_reducible refine below_drewN ?_ _) | (with_reducible refine Below.setCell ?_ ?_ _) | (with_reducible refine chain ?_ (by assumption) ?_) | omega | (simp; done) | (simp; omega)))))))) (Nat.le_refl _))⟩, (by with_reducible assumption), (by with_reducible assumption), (by with_reducible assumption), (by with_reducible assumption), (by with_reducible assumption), (by with_reducible assumption), (by with_reducible assumption), (by with_reducible assumption), (by with_reducible assumption), (by with_reducible assumption), (by with_reducible assumption), (by with_reducible assumption), (by with_reducible assumption), (by with_reducible assumption), (by with_reducible assumption), (by with_reducible assumption), (by with_reducible assumption), (by exact HW11.out.mono (by (repeat' (first | (with_reducible exact Below.refl _ _) | (with_reducible assumption) | (with_reducible refine Below.alloc ?_ ?_ _) | (with_reducible refine Below.drew ?_) | (with_reducible refine below_drewN ?_ _) | (with_reducible refine Below.setCell ?_ ?_ _) | (with_reducible refine chain ?_ (by assumption) ?_) | omega | (simp; done) | (simp; omega))))), (by exact HG11.out.mono (by (repeat' (first | (with_reducible exact Below.refl _ _) | (with_reducible assumption) | (with_reducible refine Below.alloc ?_ ?_ _) | (with_reducible refine Below.drew ?_) | (with_reducible refine below_drewN ?_ _) | (with_reducible refine Below.setCell ?_ ?_ _) | (with_reducible refine chain ?_ (by assumption) ?_) | omega | (simp; done) | (simp; omega))))), (by (try simp only [World.size_alloc, World.size_drew, World.size_setCell]); omega), (by (repeat' (first | (with_reducible exact Below.refl _ _) | (with_reducible assumption) | (with_reducible refine Below.alloc ?_ ?_ _) | (with_reducible refine Below.drew ?_) | (with_reducible refine below_drewN ?_ _) | (with_reducible refine Below.setCell ?_ ?_ _) | (with_reducible refine chain ?_ (by assumption) ?_) | omega | (simp; done) | (simp; omega))))⟩)
        case rest =>
          obtain ⟨w12, rfl⟩ : ∃ w12, w12 = wc := ⟨_, rfl⟩
          clear k11_0_0 k11_0_1 k11_0_2 k11_1_0 k11_1_1 k11_1_2 k11_1_3 k11_1_4 k11_2_0 k11_2_1 k11_2_2 k11_3_0 k11_3_1 k11_3_2 k11_4_0 k11_4_1 k11_4_2 HW11 HG11
          obtain ⟨⟨bH, AH, cpH, rfl, rfl, k12_5_0, k12_5_1, k12_5_2, HRH⟩, k12_0_0, k12_0_1, k12_0_2, k12_1_0, k12_1_1, k12_1_2, k12_1_3, k12_1_4, k12_2_0, k12_2_1, k12_2_2, k12_3_0, k12_3_1, k12_3_2, k12_4_0, k12_4_1, k12_4_2, HW12, HG12, hz12, hB12⟩ := hcut
          have bl12_0 : w.heap.size < w12.heap.size := World.block_lt_of_cell? _ _ k12_0_0
          have bl12_1 : w.heap.size + 1 < w12.heap.size := World.block_lt_of_cell? _ _ k12_1_0
          have bl12_2 : bW < w12.heap.size := World.block_lt_of_cell? _ _ k12_2_0
          have bl12_3 : w3.heap.size < w12.heap.size := World.block_lt_of_cell? _ _ k12_3_0
          have bl12_4 : bG < w12.heap.size := World.block_lt_of_cell? _ _ k12_4_0
          have bl12_5 : bH < w12.heap.size := World.block_lt_of_cell? _ _ k12_5_0
          go_wp2_with (fail)
          refine (eqm (xs := zs) ?_ ?_ HZ.out hk).mono ?_
          · exact HRH.out.rd.mono (by (repeat' (first | (with_reducible exact Below.refl _ _) | (with_reducible assumption) | (with_reducible refine Below.alloc ?_ ?_ _) | (with_reducible refine Below.drew ?_) | (with_reducible refine below_drewN ?_ _) | (with_reducible refine Below.setCell ?_ ?_ _) | (with_reducible refine chain ?_ (by assumption) ?_) | omega | (simp; done) | (simp; omega))))
          · exact HW12.out.rd.mono (by (repeat' (first | (with_reducible exact Below.refl _ _) | (with_reducible assumption) | (with_reducible refine Below.alloc ?_ ?_ _) | (with_reducible refine Below.drew ?_) | (with_reducible refine below_drewN ?_ _) | (with_reducible refine Below.setCell ?_ ?_ _) | (with_reducible refine chain ?_ (by assumption) ?_) | omega | (simp; done) | (simp; omega))))
          rintro ee w13 ⟨rfl, hb13⟩
          have hL13 : Below w12.heap.size w12 w13 := by (repeat' (first | (with_reducible exact Below.refl _ _) | (with_reducible assumption) | (with_reducible refine Below.alloc ?_ ?_ _) | (with_reducible refine Below.drew ?_) | (with_reducible refine below_drewN ?_ _) | (with_reducible refine Below.setCell ?_ ?_ _) | (with_reducible refine chain ?_ (by assumption) ?_) | omega | (simp; done) | (simp; omega)))
          have hz13 := hb13.size
          (try simp only [World.size_alloc] at hz13)
          have hB13 : Below w.heap.size w w13 := chain hB12 hL13 hB12.size
          have k13_0_0 : w13.cell? ⟨w.heap.size, 0, none⟩ = some (.int .i64 r) := (hL13.cell (p := ⟨w.heap.size, 0, none⟩) (by show w.heap.size < w12.heap.size; omega)).trans k12_0_0
          have k13_0_1 : w13.cell? ⟨w.heap.size, 1, none⟩ = some (.int .i64 c) := (hL13.cell (p := ⟨w.heap.size, 1, none⟩) (by show w.heap.size < w12.heap.size; omega)).trans k12_0_1
          have k13_0_2 : w13.cell? ⟨w.heap.size, 2, none⟩ = some (.slice A n cp) := (hL13.cell (p := ⟨w.heap.size, 2, none⟩) (by show w.heap.size < w12.heap.size; omega)).trans k12_0_2
          have k13_1_0 : w13.cell? ⟨w.heap.size + 1, 0, none⟩ = some (.int .i64 x.a) := (hL13.cell (p := ⟨w.heap.size + 1, 0, none⟩) (by show w.heap.size + 1 < w12.heap.size; omega)).trans k12_1_0
          have k13_1_1 : w13.cell? ⟨w.heap.size + 1, 1, none⟩ = some (.int .i64 x.b) := (hL13.cell (p := ⟨w.heap.size + 1, 1, none⟩) (by show w.heap.size + 1 < w12.heap.size; omega)).trans k12_1_1
          have k13_1_2 : w13.cell? ⟨w.heap.size + 1, 2, none⟩ = some (.int .i64 x.c) := (hL13.cell (p := ⟨w.heap.size + 1, 2, none⟩) (by show w.heap.size + 1 < w12.heap.size; omega)).trans k12_1_2
          have k13_1_3 : w13.cell? ⟨w.heap.size + 1, 3, none⟩ = some (.int .i64 x.d) := (hL13.cell (p := ⟨w.heap.size + 1, 3, none⟩) (by show w.heap.size + 1 < w12.heap.size; omega)).trans k12_1_3
          have k13_1_4 : w13.cell? ⟨w.heap.size + 1, 4, none⟩ = some (.int .i64 x.e) := (hL13.cell (p := ⟨w.heap.size + 1, 4, none⟩) (by show w.heap.size + 1 < w12.heap.size; omega)).trans k12_1_4
          have k13_2_0 : w13.cell? ⟨bW, 0, none⟩ = some (.int .i64 R) := (hL13.cell (p := ⟨bW, 0, none⟩) (by show bW < w12.heap.size; omega)).trans k12_2_0
          have k13_2_1 : w13.cell? ⟨bW, 1, none⟩ = some (.int .i64 C) := (hL13.cell (p := ⟨bW, 1, none⟩) (by show bW < w12.heap.size; omega)).trans k12_2_1
          have k13_2_2 : w13.cell? ⟨bW, 2, none⟩ = some (.slice AW k cpW) := (hL13.cell (p := ⟨bW, 2, none⟩) (by show bW < w12.heap.size; omega)).trans k12_2_2
          have k13_3_0 : w13.cell? ⟨w3.heap.size, 0, none⟩ = some (.int .i64 r) := (hL13.cell (p := ⟨w3.heap.size, 0, none⟩) (by show w3.heap.size < w12.heap.size; omega)).trans k12_3_0
          have k13_3_1 : w13.cell? ⟨w3.heap.size, 1, none⟩ = some (.int .i64 c) := (hL13.cell (p := ⟨w3.heap.size, 1, none⟩) (by show w3.heap.size < w12.heap.size; omega)).trans k12_3_1
          have k13_3_2 : w13.cell? ⟨w3.heap.size, 2, none⟩ = some (.slice (some ⟨g4, 0, none⟩) n n) := (hL13.cell (p := ⟨w3.heap.size, 2, none⟩) (by show w3.heap.size < w12.heap.size; omega)).trans k12_3_2
          have k13_4_0 : w13.cell? ⟨bG, 0, none⟩ = some (.int .i64 R) := (hL13.cell (p := ⟨bG, 0, none⟩) (by show bG < w12.heap.size; omega)).trans k12_4_0
          have k13_4_1 : w13.cell? ⟨bG, 1, none⟩ = some (.int .i64 C) := (hL13.cell (p := ⟨bG, 1, none⟩) (by show bG < w12.heap.size; omega)).trans k12_4_1
          have k13_4_2 : w13.cell? ⟨bG, 2, none⟩ = some (.slice AG k cpG) := (hL13.cell (p := ⟨bG, 2, none⟩) (by show bG < w12.heap.size; omega)).trans k12_4_2
          have k13_5_0 : w13.cell? ⟨bH, 0, none⟩ = some (.int .i64 R) := (hL13.cell (p := ⟨bH, 0, none⟩) (by show bH < w12.heap.size; omega)).trans k12_5_0
          have k13_5_1 : w13.cell? ⟨bH, 1, none⟩ = some (.int .i64 C) := (hL13.cell (p := ⟨bH, 1, none⟩) (by show bH < w12.heap.size; omega)).trans k12_5_1
          have k13_5_2 : w13.cell? ⟨bH, 2, none⟩ = some (.slice AH k cpH) := (hL13.cell (p := ⟨bH, 2, none⟩) (by show bH < w12.heap.size; omega)).trans k12_5_2
          have bl13_0 : w.heap.size < w13.heap.size := World.block_lt_of_cell? _ _ k13_0_0
          have bl13_1 : w.heap.size + 1 < w13.heap.size := World.block_lt_of_cell? _ _ k13_1_0
          have bl13_2 : bW < w13.heap.size := World.block_lt_of_cell? _ _ k13_2_0
          have bl13_3 : w3.heap.size < w13.heap.size := World.block_lt_of_cell? _ _ k13_3_0
          have bl13_4 : bG < w13.heap.size := World.block_lt_of_cell? _ _ k13_4_0
          have bl13_5 : bH < w13.heap.size := World.block_lt_of_cell? _ _ k13_5_0
          have HW13 := hid (HW12.out.mono hL13)
          have HG13 := hid (HG12.out.mono hL13)
          clear hb13 hL13
          clear k12_0_0 k12_0_1 k12_0_2 k12_1_0 k12_1_1 k12_1_2 k12_1_3 k12_1_4 k12_2_0 k12_2_1 k12_2_2 k12_3_0 k12_3_1 k12_3_2 k12_4_0 k12_4_1 k12_4_2 k12_5_0 k12_5_1 k12_5_2 HW12 HG12
          go_wp2_with (fail)
          refine (hdm ?_ hk (by decide) (by decide)).mono ?_
          · exact HG13.out.rd.mono (by (repeat' (first | (with_reducible exact Below.refl _ _) | (with_reducible assumption) | (with_reducible refine Below.alloc ?_ ?_ _) | (with_reducible refine Below.drew ?_) | (with_reducible refine below_drewN ?_ _) | (with_reducible refine Below.setCell ?_ ?_ _) | (with_reducible refine chain ?_ (by assumption) ?_) | omega | (simp; done) | (simp; omega))))
          rintro ee w14 ⟨rfl, hb14⟩
          have hL14 : Below w13.heap.size w13 w14 := by (repeat' (first | (with_reducible exact Below.refl _ _) | (with_reducible assumption) | (with_reducible refine Below.alloc ?_ ?_ _) | (with_reducible refine Below.drew ?_) | (with_reducible refine below_drewN ?_ _) | (with_reducible refine Below.setCell ?_ ?_ _) | (with_reducible refine chain ?_ (by assumption) ?_) | omega | (simp; done) | (simp; omega)))
          have hz14 := hb14.size
          (try simp only [World.size_alloc] at hz14)
          have hB14 : Below w.heap.size w w14 := chain hB13 hL14 hB13.size
          have k14_0_0 : w14.cell? ⟨w.heap.size, 0, none⟩ = some (.int .i64 r) := (hL14.cell (p := ⟨w.heap.size, 0, none⟩) (by show w.heap.size < w13.heap.size; omega)).trans k13_0_0
          have k14_0_1 : w14.cell? ⟨w.heap.size, 1, none⟩ = some (.int .i64 c) := (hL14.cell (p := ⟨w.heap.size, 1, none⟩) (by show w.heap.size < w13.heap.size; omega)).trans k13_0_1
          have k14_0_2 : w14.cell? ⟨w.heap.size, 2, none⟩ = some (.slice A n cp) := (hL14.cell (p := ⟨w.heap.size, 2, none⟩) (by show w.heap.size < w13.heap.size; omega)).trans k13_0_2
          have k14_1_0 : w14.cell? ⟨w.heap.size + 1, 0, none⟩ = some (.int .i64 x.a) := (hL14.cell (p := ⟨w.heap.size + 1, 0, none⟩) (by show w.heap.size + 1 < w13.heap.size; omega)).trans k13_1_0
          have k14_1_1 : w14.cell? ⟨w.heap.size + 1, 1, none⟩ = some (.int .i64 x.b) := (hL14.cell (p := ⟨w.heap.size + 1, 1, none⟩) (by show w.heap.size + 1 < w13.heap.size; omega)).trans k13_1_1
          have k14_1_2 : w14.cell? ⟨w.heap.size + 1, 2, none⟩ = some (.int .i64 x.c) := (hL14.cell (p := ⟨w.heap.size + 1, 2, none⟩) (by show w.heap.size + 1 < w13.heap.size; omega)).trans k13_1_2
          have k14_1_3 : w14.cell? ⟨w.heap.size + 1, 3, none⟩ = some (.int .i64 x.d) := (hL14.cell (p := ⟨w.heap.size + 1, 3, none⟩) (by show w.heap.size + 1 < w13.heap.size; omega)).trans k13_1_3
          have k14_1_4 : w14.cell? ⟨w.heap.size + 1, 4, none⟩ = some (.int .i64 x.e) := (hL14.cell (p := ⟨w.heap.size + 1, 4, none⟩) (by show w.heap.size + 1 < w13.heap.size; omega)).trans k13_1_4
          have k14_2_0 : w14.cell? ⟨bW, 0, none⟩ = some (.int .i64 R) := (hL14.cell (p := ⟨bW, 0, none⟩) (by show bW < w13.heap.size; omega)).trans k13_2_0
          have k14_2_1 : w14.cell? ⟨bW, 1, none⟩ = some (.int .i64 C) := (hL14.cell (p := ⟨bW, 1, none⟩) (by show bW < w13.heap.size; omega)).trans k13_2_1
          have k14_2_2 : w14.cell? ⟨bW, 2, none⟩ = some (.slice AW k cpW) := (hL14.cell (p := ⟨bW, 2, none⟩) (by show bW < w13.heap.size; omega)).trans k13_2_2
          have k14_3_0 : w14.cell? ⟨w3.heap.size, 0, none⟩ = some (.int .i64 r) := (hL14.cell (p := ⟨w3.heap.size, 0, none⟩) (by show w3.heap.size < w13.heap.size; omega)).trans k13_3_0
          have k14_3_1 : w14.cell? ⟨w3.heap.size, 1, none⟩ = some (.int .i64 c) := (hL14.cell (p := ⟨w3.heap.size, 1, none⟩) (by show w3.heap.size < w13.heap.size; omega)).trans k13_3_1
          have k14_3_2 : w14.cell? ⟨w3.heap.size, 2, none⟩ = some (.slice (some ⟨g4, 0, none⟩) n n) := (hL14.cell (p := ⟨w3.heap.size, 2, none⟩) (by show w3.heap.size < w13.heap.size; omega)).trans k13_3_2
          have k14_4_0 : w14.cell? ⟨bG, 0, none⟩ = some (.int .i64 R) := (hL14.cell (p := ⟨bG, 0, none⟩) (by show bG < w13.heap.size; omega)).trans k13_4_0
          have k14_4_1 : w14.cell? ⟨bG, 1, none⟩ = some (.int .i64 C) := (hL14.cell (p := ⟨bG, 1, none⟩) (by show bG < w13.heap.size; omega)).trans k13_4_1
          have k14_4_2 : w14.cell? ⟨bG, 2, none⟩ = some (.slice AG k cpG) := (hL14.cell (p := ⟨bG, 2, none⟩) (by show bG < w13.heap.size; omega)).trans k13_4_2
          have k14_5_0 : w14.cell? ⟨bH, 0, none⟩ = some (.int .i64 R) := (hL14.cell (p := ⟨bH, 0, none⟩) (by show bH < w13.heap.size; omega)).trans k13_5_0
          have k14_5_1 : w14.cell? ⟨bH, 1, none⟩ = some (.int .i64 C) := (hL14.cell (p := ⟨bH, 1, none⟩) (by show bH < w13.heap.size; omega)).trans k13_5_1
          have k14_5_2 : w14.cell? ⟨bH, 2, none⟩ = some (.slice AH k cpH) := (hL14.cell (p := ⟨bH, 2, none⟩) (by show bH < w13.heap.size; omega)).trans k13_5_2
          have bl14_0 : w.heap.size < w14.heap.size := World.block_lt_of_cell? _ _ k14_0_0
          have bl14_1 : w.heap.size + 1 < w14.heap.size := World.block_lt_of_cell? _ _ k14_1_0
          have bl14_2 : bW < w14.heap.size := World.block_lt_of_cell? _ _ k14_2_0
          have bl14_3 : w3.heap.size < w14.heap.size := World.block_lt_of_cell? _ _ k14_3_0
          have bl14_4 : bG < w14.heap.size := World.block_lt_of_cell? _ _ k14_4_0
          have bl14_5 : bH < w14.heap.size := World.block_lt_of_cell? _ _ k14_5_0
          have HW14 := hid (HW13.out.mono hL14)
          have HG14 := hid (HG13.out.mono hL14)
          clear hb14 hL14
          clear k13_0_0 k13_0_1 k13_0_2 k13_1_0 k13_1_1 k13_1_2 k13_1_3 k13_1_4 k13_2_0 k13_2_1 k13_2_2 k13_3_0 k13_3_1 k13_3_2 k13_4_0 k13_4_1 k13_4_2 k13_5_0 k13_5_1 k13_5_2 HW13 HG13
          go_wp2_with (fail)
          go_ret
          exact ⟨rfl, hB14⟩

end Go.Proofs.Ytncgccpkbneagaa
