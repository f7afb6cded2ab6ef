/- ParseForm: the model, a text that is not of three words. -/
import Derived.Test.YtofclfgaekjonaaDoorFn4
import Derived.Test.YtofclfgaekjonaaDoorPg
import Derived.Test.YtofclfgaekjonaaDoorPs1
import Derived.Test.YtofclfgaekjonaaDoorRr
namespace Go.Proofs.YtofclfgaekjonaaDoor
open Go.RowKit RM
set_option linter.unusedVariables false
set_option linter.unusedSimpArgs false
attribute [local irreducible] World.setCell

theorem rd3 {W : World} {A : Option Addr} {x0 x1 x2 : ByteArray} (h : Rd strE W A [x0, x1, x2]) : ∃ g o, A = some ⟨g, o, none⟩ ∧ W.cell? ⟨g, o, none⟩ = some (.string x0) ∧ W.cell? ⟨g, o + 1, none⟩ = some (.string x1) ∧ W.cell? ⟨g, o + 2, none⟩ = some (.string x2) := by
  obtain ⟨g, o, rfl, h0⟩ := h 0 x0 rfl
  obtain ⟨g1, o1, e1, h1⟩ := h 1 x1 rfl
  cases e1
  obtain ⟨g2, o2, e2, h2⟩ := h 2 x2 rfl
  cases e2
  exact ⟨g, o, rfl, h0 0 _ rfl, h1 0 _ rfl, h2 0 _ rfl⟩
set_option maxRecDepth 100000 in
set_option maxHeartbeats 8000000 in
theorem psf_len {s : ByteArray} {L : List ByteArray} {w : World} (hs : s.size ≤ 1048576) (hL : spl s 32 = L) (hl : L.length ≠ 3) :
    Calls Tryd.prog 15 #[.string s] w fun ee w' => ee = .returned (.tuple #[fmv (ByteArray.mk #[]) 0 0, .bool false]) ∧ Below w.heap.size w w' := by
  have hsp := lay0 (fun w => split_s hL hs w)
  obtain ⟨n, hn⟩ : ∃ n, n = L.length := ⟨_, rfl⟩
  rw [← hn] at hl
  have hl2 : ¬ ((n : Int) = 3) := by omega
  have hl3 : ((n : Int) == 3) = false := by simpa using hl2
  clear hL hs hl
  go_enter Tryd.func15, Tryd.ntmps15
  go_wp2_with (go_at_call 32; refine (hsp.out _).mono ?_)
  rintro ee w8 ⟨A, cp, rfl, hRd, hb1⟩
  rw [← hn]
  clear hn hRd
  have X08 : Bx w8 w.heap.size 30 #[.string ByteArray.empty, .int .i64 0, .int .i64 0] := (Bx.new rfl).mono hb1
  have HB8 := ((Below.refl w.heap.size w).alloc (Nat.le_refl _) _).trans (hb1.mono (by simp))
  have hz : w.heap.size < w8.heap.size := X08.lt
  clear hb1
  have g0 := X08.c 0 rfl
  have g1 := X08.c 1 rfl
  have g2 := X08.c 2 rfl
  have gf := X08.f
  go_wp2_with (fail)
  obtain ⟨w9, hw9⟩ : ∃ W, W = ((w8.setCell ⟨w.heap.size, 0, none⟩ (.string (ByteArray.mk #[]))).setCell ⟨w.heap.size, 1, none⟩ (.int .i64 0)).setCell ⟨w.heap.size, 2, none⟩ (.int .i64 0) := ⟨_, rfl⟩
  have X9 : Bx w9 w.heap.size 30 #[.string (ByteArray.mk #[]), .int .i64 0, .int .i64 0] := by rw [hw9]; exact ((X08.set rfl).set rfl).set rfl
  have HB9 : Below w.heap.size w w9 := by rw [hw9]; exact ((HB8.setCell (p := ⟨w.heap.size, 0, none⟩) (Nat.le_refl _) _).setCell (p := ⟨w.heap.size, 1, none⟩) (Nat.le_refl _) _).setCell (p := ⟨w.heap.size, 2, none⟩) (Nat.le_refl _) _
  rw [← hw9]
  clear hw9 X08 HB8 g0 g1 g2 gf
  have r0 := X9.c 0 rfl
  have r1 := X9.c 1 rfl
  have r2 := X9.c 2 rfl
  refine bodyPost_ret (v := .tuple #[fmv (ByteArray.mk #[]) 0 0, .bool false]) (by first | (simp only [results, Tryd.results15]; go_simp; done) | (simp [results, Tryd.results15, go_sem, *]; done)) rfl ⟨rfl, HB9⟩

end Go.Proofs.YtofclfgaekjonaaDoor
