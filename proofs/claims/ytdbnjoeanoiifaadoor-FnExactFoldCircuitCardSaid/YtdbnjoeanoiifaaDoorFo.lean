/- FormatGate. -/
import Derived.Test.YtdbnjoeanoiifaaDoorFt
import Derived.Deep.DeepCutAuto
import Derived.Deep.LoopGhost
import Derived.Deep.CutBlock
import Derived.OrdersHeld
namespace Go.Proofs.YtdbnjoeanoiifaaDoor
open Go.RowKit
set_option linter.unusedVariables false
set_option linter.unusedSimpArgs false
attribute [local irreducible] World.setCell

set_option maxRecDepth 100000 in
set_option maxHeartbeats 2000000 in
theorem fi_f {g : GateV} (hv : vgB 5 g = false) (w : World) :
    Calls Tryd.prog 76 #[g.v] w fun ee w' => ee = .returned (.tuple #[.string ⟨#[]⟩, .bool false]) ∧ Below w.heap.size w w' := by
  have HV := lay hv
  clear hv
  go_enter Tryd.func76, Tryd.ntmps76
  go_wp2_with (first | (go_at_call 75; ((with_reducible refine (ivg (n := 5) (g := g) HV.out _).mono ?_); rintro ee w1 ⟨rfl, hb1⟩)))
  refine bodyPost_ret (v := .tuple #[.string ⟨#[]⟩, .bool false]) (by first | (simp [results, Tryd.results76, go_sem, *]; done) | (simp (disch := (first | omega | (simp; done) | (simp; omega))) [results, Tryd.results76, go_sem, *]; done) | (simp only [results, Tryd.results76]; go_simp; done)) rfl ⟨rfl, ?_⟩
  (repeat' (first | (with_reducible exact Below.refl _ _) | (with_reducible assumption) | (with_reducible refine Below.alloc ?_ ?_ _) | (with_reducible refine Below.drew ?_) | (with_reducible refine bdN ?_ _) | (with_reducible refine Below.setCell ?_ ?_ _) | (with_reducible refine chn ?_ (by assumption) ?_) | omega | (simp; done) | (simp; omega)))

set_option maxRecDepth 100000 in
set_option maxHeartbeats 8000000 in
theorem fi_t {k a b q : Nat} (h1 : 1 ≤ k) (h2 : k ≤ 12) (ha : a ≤ 4) (hb : b ≤ 4) (hv : vgB 5 ⟨(k : Int), (a : Int), (b : Int)⟩ = true) (hq : qa ⟨(k : Int), (a : Int), (b : Int)⟩ = (q : Int)) (hq2 : q ≤ 2) (w : World) (hG : ∀ i, i ≤ 12 → w.cell? ⟨0, i, none⟩ = some (.string (gnm i))) :
    Calls Tryd.prog 76 #[.agg #[.int .i64 (k : Int), .int .i64 (a : Int), .int .i64 (b : Int)]] w fun ee w' => ee = .returned (.tuple #[.string (fgT k a b q), .bool true]) ∧ Below w.heap.size w w' := by
  have HV := lay hv
  have HQ := lay hq
  have c0 := hG k h2
  have l0 : 0 < w.heap.size := World.block_lt_of_cell? _ _ c0
  have kk : (k : Int) < 13 := by omega
  have c0' : w.cell? ⟨0, k, none⟩ = some (.string (fgT k a b 0)) := c0
  clear hv hq c0 hG
  go_enter Tryd.func76, Tryd.ntmps76
  go_wp2_with (fail)
  refine (ivg (n := 5) (g := ⟨(k : Int), (a : Int), (b : Int)⟩) HV.out _).mono ?_
  rintro ee w1 ⟨rfl, hb1⟩
  have Xg := lay (Bb.mono (b := w.heap.size) (t := 86) (cs := #[.int .i64 (k : Int), .int .i64 (a : Int), .int .i64 (b : Int)]) (Bb.new rfl) hb1)
  have hz1 := hb1.size
  (try simp only [World.size_alloc] at hz1)
  have c1 : w1.cell? ⟨0, k, none⟩ = some (.string (fgT k a b 0)) := (hb1.cell (p := ⟨0, k, none⟩) (by show 0 < _; (try simp only [World.size_alloc]); omega)).trans (kclAl c0')
  have hB1 : Below w.heap.size w w1 := by (repeat' (first | (with_reducible exact Below.refl _ _) | (with_reducible assumption) | (with_reducible refine Below.alloc ?_ ?_ _) | (with_reducible refine Below.drew ?_) | (with_reducible refine bdN ?_ _) | (with_reducible refine Below.setCell ?_ ?_ _) | (with_reducible refine chn ?_ (by assumption) ?_) | omega | (simp; done) | (simp; omega)))
  have g0 := Xg.out.c 0 rfl
  have g1 := Xg.out.c 1 rfl
  have g2 := Xg.out.c 2 rfl
  have lg := Xg.out.lt
  have q0 : (0 : Int) ≤ (q : Int) := by omega
  have q2 : (q : Int) ≤ 2 := by omega
  have HB1 := lay hB1
  clear hb1 c0' hB1
  go_wp2_with (fail)
  go_cut [21, 22, 23] (fun s21 s22 s23 wx => ∃ blk : Nat, s21 = .slice (some ⟨blk, 0, none⟩) q 2 ∧ s22 = .int .i64 (q : Int) ∧ s23 = .int .i64 0 ∧ wx.cell? ⟨blk, 0, none⟩ = some (.int .i64 (a : Int)) ∧ wx.cell? ⟨blk, 1, none⟩ = some (.int .i64 (b : Int)) ∧ Hid (Below w.heap.size w wx))
  case first =>
    have hB1 := HB1.out
    have hB1s := hB1.size
    have y0 : w1.drew.cell? ⟨w.heap.size, 0, none⟩ = some (.int .i64 (k : Int)) := g0
    have y1 : w1.drew.cell? ⟨w.heap.size, 1, none⟩ = some (.int .i64 (a : Int)) := g1
    have y2 : w1.drew.cell? ⟨w.heap.size, 2, none⟩ = some (.int .i64 (b : Int)) := g2
    go_region_held3 (fun w' => w'.cell? ⟨w.heap.size, 0, none⟩ = some (.int .i64 (k : Int)) ∧ w'.cell? ⟨w.heap.size, 1, none⟩ = some (.int .i64 (a : Int)) ∧ w'.cell? ⟨w.heap.size, 2, none⟩ = some (.int .i64 (b : Int))) (first | (with_reducible exact ⟨y0, y1, y2⟩) | (with_reducible exact ⟨g0, g1, g2⟩) | (go_split_ands; with_reducible exact ⟨kcl hv0 (by with_reducible assumption), kcl hv0 (by with_reducible assumption), kcl hv0 (by with_reducible assumption)⟩) | (go_split_ands; with_reducible exact ⟨kclAl (by with_reducible assumption), kclAl (by with_reducible assumption), kclAl (by with_reducible assumption)⟩) | (go_split_ands; with_reducible exact ⟨kclAld (by with_reducible assumption), kclAld (by with_reducible assumption), kclAld (by with_reducible assumption)⟩)) (first | (go_at_call 95; ((with_reducible refine (qat (g := ⟨(k : Int), (a : Int), (b : Int)⟩) HQ.out _).mono ?_); rintro ee v0 ⟨rfl, hv0⟩; have hq0 := hv0.size; (try simp only [World.size_drew, World.size_alloc] at hq0))))
    all_goals (go_wp2_with fail; go_meet)
    all_goals go_split_ands
    all_goals (refine ⟨_, rfl, rfl, rfl, ?_, ?_, ?_⟩)
    all_goals first | (show Below _ _ _; (repeat' (first | (with_reducible exact Below.refl _ _) | (with_reducible assumption) | (with_reducible refine Below.alloc ?_ ?_ _) | (with_reducible refine Below.drew ?_) | (with_reducible refine bdN ?_ _) | (with_reducible refine Below.setCell ?_ ?_ _) | (with_reducible refine chn ?_ (by assumption) ?_) | omega | (simp; done) | (simp; omega)))) | (simp; done) | (exact kcl hv0 (by simp)) | (simp [*]; done)
  case rest =>
    obtain ⟨w2, rfl⟩ : ∃ w2, w2 = wc := ⟨_, rfl⟩
    obtain ⟨blk, rfl, rfl, rfl, d0, d1, HB2⟩ := hcut
    have D0 := lay d0
    have D1 := lay d1
    clear g0 g1 g2 lg Xg c1 HB1 d0 d1
    go_wp2_with (fail)
    go_loopg [4, 23] q (fun r s4 s23 wr => ∃ j : Nat, j + r = q ∧ s4 = .string (fgT k a b j) ∧ s23 = .int .i64 (j : Int) ∧ Hid (wr.cell? ⟨blk, 0, none⟩ = some (.int .i64 (a : Int))) ∧ Hid (wr.cell? ⟨blk, 1, none⟩ = some (.int .i64 (b : Int))) ∧ Hid (Below w.heap.size w wr))
    case atStart => exact ⟨0, by omega, rfl, rfl, D0, D1, HB2⟩
    case round =>
      clear D0 D1 HB2
      obtain ⟨j, hj, rfl, rfl, D0, D1, HB2⟩ := hrel
      cases gk with
      | zero =>
        obtain rfl : q = j := by omega
        go_wp2_with (fail)
        refine bodyPost_ret (v := .tuple #[.string (fgT k a b q), .bool true]) (by first | (simp [results, Tryd.results76, go_sem, *]; done) | (simp (disch := (first | omega | (simp; done) | (simp; omega))) [results, Tryd.results76, go_sem, *]; done) | (simp only [results, Tryd.results76]; go_simp; done)) rfl ⟨rfl, ?_⟩
        exact HB2.out
      | succ r =>
        have hlt : j < q := by omega
        have j1 : (j : Int) < (q : Int) := by omega
        have hy4 : fgQ a b j ≤ 4 := by unfold fgQ; split <;> omega
        have cj : wr.cell? ⟨blk, j, none⟩ = some (.int .i64 ((fgQ a b j : Nat) : Int)) := by
          rcases (by omega : j = 0 ∨ j = 1) with rfl | rfl
          · exact D0.out
          · exact D1.out
        have k1 := fun w => ka_sp (P := Tryd.prog) (fgQ a b j) w
        have k2 := fun w => ka_tx (P := Tryd.prog) (k := k) (a := a) (b := b) (j := j) (by omega) w
        obtain ⟨y, hy⟩ : ∃ y, fgQ a b j = y := ⟨_, rfl⟩
        rw [hy] at hy4 cj k1 k2
        clear hy
        go_wp2_with (first | (go_at_call 28; ((with_reducible refine (itoa (q := y) (by omega) _).mono ?_); rintro ee w3 ⟨rfl, hb3⟩)))
        go_roundg r
        case measure => omega
        case rel =>
          exact ⟨j + 1, by omega, rfl, by go_num, lay (kcl hb3 D0.out), lay (kcl hb3 D1.out), lay (chn HB2.out hb3 HB2.out.size)⟩

end Go.Proofs.YtdbnjoeanoiifaaDoor
