/- ParseForm: the program. -/
import Derived.Test.YtofclfgaekjonaaDoorFn3
import Derived.Test.YtofclfgaekjonaaDoorCt
import Derived.Test.YtofclfgaekjonaaDoorBx
namespace Go.Proofs.YtofclfgaekjonaaDoor
open Go.RowKit RM
set_option linter.unusedVariables false
set_option linter.unusedSimpArgs false
attribute [local irreducible] World.setCell

theorem nx45 {s : ByteArray} (h : ¬ (s = ByteArray.mk #[45])) : (s.toList == [45]) = false := by
  rw [Go.ByteArray.toList_eq]
  rw [beq_eq_false_iff_ne]
  intro h2
  apply h
  rcases s with ⟨⟨l⟩⟩
  have h3 : l = [45] := h2
  rw [h3]
theorem neb {s t : ByteArray} (h : ¬ (s = t)) : (s.toList == t.toList) = false := by
  rw [Go.ByteArray.toList_eq, Go.ByteArray.toList_eq]
  rw [beq_eq_false_iff_ne]
  intro h2
  apply h
  rcases s with ⟨⟨l⟩⟩
  rcases t with ⟨⟨m⟩⟩
  have h3 : l = m := h2
  rw [h3]
set_option maxRecDepth 100000 in
set_option maxHeartbeats 8000000 in
theorem pfi_t {s x r y z T : ByteArray} {k1 k2 : Bool} {v1 v2 : Int} {w : World} (hC1 : (∀ W : World, Calls Tryd.prog 34 #[.string s, .string ⟨#[32]⟩] W fun ee w' => ee = .returned (.tuple #[.string x, .string r, .bool k1]) ∧ Below W.heap.size W w')) (hC2 : (∀ W : World, Calls Tryd.prog 34 #[.string r, .string ⟨#[32]⟩] W fun ee w' => ee = .returned (.tuple #[.string y, .string z, .bool k2]) ∧ Below W.heap.size W w')) (hA1 : (∀ W : World, Below w.heap.size w W → Calls Tryd.prog 35 #[.string y] W fun ee w' => ∃ ev, ee = .returned (.tuple #[.int .i64 v1, ev]) ∧ Below W.heap.size W w')) (hA2 : (∀ W : World, Below w.heap.size w W → Calls Tryd.prog 35 #[.string z] W fun ee w' => ∃ ev, ee = .returned (.tuple #[.int .i64 v2, ev]) ∧ Below W.heap.size W w')) (hF : (∀ W : World, Calls Tryd.prog 14 #[fmv x v1 v2] W fun ee w' => ee = .returned (.tuple #[.string s, .bool true]) ∧ Below W.heap.size W w')) (hx : ¬ (x = ByteArray.mk #[45])) :
    Calls Tryd.prog 16 #[.string s] w fun ee w' => ee = .returned (.tuple #[fmv x v1 v2, .bool true]) ∧ Below w.heap.size w w' := by
  have HC1 := lay0 hC1
  have HC2 := lay0 hC2
  have HA1 := lay0 hA1
  have HA2 := lay0 hA2
  have HF := lay0 hF
  clear hC1 hC2 hA1 hA2 hF
  have hx2 : (x.toList == [45]) = false := nx45 hx
  go_enter Tryd.func16, Tryd.ntmps16
  go_upto_region 3 with (go_at_call 34; (first | ((with_reducible refine (HC1.out _).mono ?_); rintro ee w1 ⟨rfl, hb1⟩; have hz1 := hb1.size; (try simp only [World.size_alloc] at hz1)) | ((with_reducible refine (HC2.out _).mono ?_); rintro ee w2 ⟨rfl, hb2⟩; have hz2 := hb2.size)))
  have X0 : Bx w2 w.heap.size 30 #[.string ByteArray.empty, .int .i64 0, .int .i64 0] := ((Bx.new rfl).mono hb1).mono hb2
  have HB2 := lay0 (((Below.refl w.heap.size w).alloc (Nat.le_refl _) _).trans ((hb1.mono (by simp)).trans (hb2.mono (by omega))))
  have hz : w.heap.size < w2.heap.size := by omega
  clear hb1 hb2 hz1 hz2
  go_upto_region 6 with (fail)
  obtain ⟨b, hbn⟩ : ∃ b, b = w2.heap.size := ⟨_, rfl⟩
  obtain ⟨w5, hw5⟩ : ∃ W, W = w2.alloc (.cells #[.string x, .int .i64 0, .int .i64 0] 30) := ⟨_, rfl⟩
  have XF5 : Bx w5 b 30 #[.string x, .int .i64 0, .int .i64 0] := by rw [hw5]; exact Bx.new hbn
  have X05 : Bx w5 w.heap.size 30 #[.string ByteArray.empty, .int .i64 0, .int .i64 0] := by rw [hw5]; exact X0.alloc _
  have HB5 : Below w.heap.size w w5 := by rw [hw5]; exact HB2.out.alloc (by omega) _
  have hbz : w.heap.size < b := by omega
  have hne : b ≠ w.heap.size := by omega
  have hne2 : w.heap.size ≠ b := by omega
  rw [← hw5, ← hbn]
  clear hw5 hbn X0 HB2 hz
  go_wp2_with (go_at_call 35; refine (HA1.out w5 HB5).mono ?_)
  rintro ee w3 ⟨ev1, rfl, hb3⟩
  have XF3 := XF5.mono hb3
  have X03 := X05.mono hb3
  have HB3 := HB5.trans (hb3.mono HB5.size)
  have c1 := XF3.c 1 rfl
  have c1f := XF3.f 1
  clear hb3 XF5 X05 HB5
  go_upto_region 7 with (fail)
  obtain ⟨w6, hw6⟩ : ∃ W, W = w3.setCell ⟨b, 1, none⟩ (.int .i64 v1) := ⟨_, rfl⟩
  have XF6 : Bx w6 b 30 #[.string x, .int .i64 v1, .int .i64 0] := by rw [hw6]; exact XF3.set rfl
  have X06 : Bx w6 w.heap.size 30 #[.string ByteArray.empty, .int .i64 0, .int .i64 0] := by rw [hw6]; exact X03.far hne2
  have HB6 : Below w.heap.size w w6 := by rw [hw6]; exact HB3.setCell (p := ⟨b, 1, none⟩) (by show _ ≤ b; omega) _
  rw [← hw6]
  clear hw6 XF3 X03 HB3 c1 c1f
  go_wp2_with (go_at_call 35; refine (HA2.out w6 HB6).mono ?_)
  rintro ee w4 ⟨ev2, rfl, hb4⟩
  have XF4 := XF6.mono hb4
  have X04 := X06.mono hb4
  have HB4 := HB6.trans (hb4.mono HB6.size)
  have c2 := XF4.c 2 rfl
  have c2f := XF4.f 2
  clear hb4 XF6 X06 HB6
  go_upto_region 8 with (fail)
  obtain ⟨w7, hw7⟩ : ∃ W, W = w4.setCell ⟨b, 2, none⟩ (.int .i64 v2) := ⟨_, rfl⟩
  have XF7 : Bx w7 b 30 #[.string x, .int .i64 v1, .int .i64 v2] := by rw [hw7]; exact XF4.set rfl
  have X07 : Bx w7 w.heap.size 30 #[.string ByteArray.empty, .int .i64 0, .int .i64 0] := by rw [hw7]; exact X04.far hne2
  have HB7 : Below w.heap.size w w7 := by rw [hw7]; exact HB4.setCell (p := ⟨b, 2, none⟩) (by show _ ≤ b; omega) _
  rw [← hw7]
  clear hw7 XF4 X04 HB4 c2 c2f
  have d0 := XF7.c 0 rfl
  have d1 := XF7.c 1 rfl
  have d2 := XF7.c 2 rfl
  go_wp2_with (go_at_call 14; refine (HF.out w7).mono ?_)
  rintro ee w8 ⟨rfl, hb8⟩
  have XF8 := XF7.mono hb8
  have X08 := X07.mono hb8
  have HB8 := HB7.trans (hb8.mono HB7.size)
  clear hb8 XF7 X07 HB7 d0 d1 d2
  have d0 := XF8.c 0 rfl
  have d1 := XF8.c 1 rfl
  have d2 := XF8.c 2 rfl
  have g0 := X08.c 0 rfl
  have g1 := X08.c 1 rfl
  have g2 := X08.c 2 rfl
  have gf := X08.f
  go_wp2_with (fail)
  obtain ⟨w9, hw9⟩ : ∃ W, W = ((w8.setCell ⟨w.heap.size, 0, none⟩ (.string x)).setCell ⟨w.heap.size, 1, none⟩ (.int .i64 v1)).setCell ⟨w.heap.size, 2, none⟩ (.int .i64 v2) := ⟨_, rfl⟩
  have X9 : Bx w9 w.heap.size 30 #[.string x, .int .i64 v1, .int .i64 v2] := by rw [hw9]; exact ((X08.set rfl).set rfl).set rfl
  have HB9 : Below w.heap.size w w9 := by rw [hw9]; exact ((HB8.setCell (p := ⟨w.heap.size, 0, none⟩) (Nat.le_refl _) _).setCell (p := ⟨w.heap.size, 1, none⟩) (Nat.le_refl _) _).setCell (p := ⟨w.heap.size, 2, none⟩) (Nat.le_refl _) _
  first | rw [← hw9] | (show bodyPost _ _ _ _ _ _; rw [← hw9])
  clear hw9 X08 HB8 g0 g1 g2 gf d0 d1 d2 XF8
  have r0 := X9.c 0 rfl
  have r1 := X9.c 1 rfl
  have r2 := X9.c 2 rfl
  refine bodyPost_ret (v := .tuple #[fmv x v1 v2, .bool true]) (by first | (simp only [results, Tryd.results16]; go_simp; done) | (simp [results, Tryd.results16, go_sem, *]; done)) rfl ⟨rfl, HB9⟩
set_option maxRecDepth 100000 in
set_option maxHeartbeats 8000000 in
theorem pfi_n {s x r y z T : ByteArray} {k1 k2 : Bool} {v1 v2 : Int} {w : World} (hC1 : (∀ W : World, Calls Tryd.prog 34 #[.string s, .string ⟨#[32]⟩] W fun ee w' => ee = .returned (.tuple #[.string x, .string r, .bool k1]) ∧ Below W.heap.size W w')) (hC2 : (∀ W : World, Calls Tryd.prog 34 #[.string r, .string ⟨#[32]⟩] W fun ee w' => ee = .returned (.tuple #[.string y, .string z, .bool k2]) ∧ Below W.heap.size W w')) (hA1 : (∀ W : World, Below w.heap.size w W → Calls Tryd.prog 35 #[.string y] W fun ee w' => ∃ ev, ee = .returned (.tuple #[.int .i64 v1, ev]) ∧ Below W.heap.size W w')) (hA2 : (∀ W : World, Below w.heap.size w W → Calls Tryd.prog 35 #[.string z] W fun ee w' => ∃ ev, ee = .returned (.tuple #[.int .i64 v2, ev]) ∧ Below W.heap.size W w')) (hF : (∀ W : World, Calls Tryd.prog 14 #[fmv x v1 v2] W fun ee w' => ee = .returned (.tuple #[.string T, .bool true]) ∧ Below W.heap.size W w')) (hx : ¬ (x = ByteArray.mk #[45])) (hT : ¬ (T = s)) :
    Calls Tryd.prog 16 #[.string s] w fun ee w' => ee = .returned (.tuple #[fmv (ByteArray.mk #[]) 0 0, .bool false]) ∧ Below w.heap.size w w' := by
  have HC1 := lay0 hC1
  have HC2 := lay0 hC2
  have HA1 := lay0 hA1
  have HA2 := lay0 hA2
  have HF := lay0 hF
  clear hC1 hC2 hA1 hA2 hF
  have hx2 : (x.toList == [45]) = false := nx45 hx
  have hT2 : (T.toList == s.toList) = false := neb hT
  go_enter Tryd.func16, Tryd.ntmps16
  go_upto_region 3 with (go_at_call 34; (first | ((with_reducible refine (HC1.out _).mono ?_); rintro ee w1 ⟨rfl, hb1⟩; have hz1 := hb1.size; (try simp only [World.size_alloc] at hz1)) | ((with_reducible refine (HC2.out _).mono ?_); rintro ee w2 ⟨rfl, hb2⟩; have hz2 := hb2.size)))
  have X0 : Bx w2 w.heap.size 30 #[.string ByteArray.empty, .int .i64 0, .int .i64 0] := ((Bx.new rfl).mono hb1).mono hb2
  have HB2 := lay0 (((Below.refl w.heap.size w).alloc (Nat.le_refl _) _).trans ((hb1.mono (by simp)).trans (hb2.mono (by omega))))
  have hz : w.heap.size < w2.heap.size := by omega
  clear hb1 hb2 hz1 hz2
  go_upto_region 6 with (fail)
  obtain ⟨b, hbn⟩ : ∃ b, b = w2.heap.size := ⟨_, rfl⟩
  obtain ⟨w5, hw5⟩ : ∃ W, W = w2.alloc (.cells #[.string x, .int .i64 0, .int .i64 0] 30) := ⟨_, rfl⟩
  have XF5 : Bx w5 b 30 #[.string x, .int .i64 0, .int .i64 0] := by rw [hw5]; exact Bx.new hbn
  have X05 : Bx w5 w.heap.size 30 #[.string ByteArray.empty, .int .i64 0, .int .i64 0] := by rw [hw5]; exact X0.alloc _
  have HB5 : Below w.heap.size w w5 := by rw [hw5]; exact HB2.out.alloc (by omega) _
  have hbz : w.heap.size < b := by omega
  have hne : b ≠ w.heap.size := by omega
  have hne2 : w.heap.size ≠ b := by omega
  rw [← hw5, ← hbn]
  clear hw5 hbn X0 HB2 hz
  go_wp2_with (go_at_call 35; refine (HA1.out w5 HB5).mono ?_)
  rintro ee w3 ⟨ev1, rfl, hb3⟩
  have XF3 := XF5.mono hb3
  have X03 := X05.mono hb3
  have HB3 := HB5.trans (hb3.mono HB5.size)
  have c1 := XF3.c 1 rfl
  have c1f := XF3.f 1
  clear hb3 XF5 X05 HB5
  go_upto_region 7 with (fail)
  obtain ⟨w6, hw6⟩ : ∃ W, W = w3.setCell ⟨b, 1, none⟩ (.int .i64 v1) := ⟨_, rfl⟩
  have XF6 : Bx w6 b 30 #[.string x, .int .i64 v1, .int .i64 0] := by rw [hw6]; exact XF3.set rfl
  have X06 : Bx w6 w.heap.size 30 #[.string ByteArray.empty, .int .i64 0, .int .i64 0] := by rw [hw6]; exact X03.far hne2
  have HB6 : Below w.heap.size w w6 := by rw [hw6]; exact HB3.setCell (p := ⟨b, 1, none⟩) (by show _ ≤ b; omega) _
  rw [← hw6]
  clear hw6 XF3 X03 HB3 c1 c1f
  go_wp2_with (go_at_call 35; refine (HA2.out w6 HB6).mono ?_)
  rintro ee w4 ⟨ev2, rfl, hb4⟩
  have XF4 := XF6.mono hb4
  have X04 := X06.mono hb4
  have HB4 := HB6.trans (hb4.mono HB6.size)
  have c2 := XF4.c 2 rfl
  have c2f := XF4.f 2
  clear hb4 XF6 X06 HB6
  go_upto_region 8 with (fail)
  obtain ⟨w7, hw7⟩ : ∃ W, W = w4.setCell ⟨b, 2, none⟩ (.int .i64 v2) := ⟨_, rfl⟩
  have XF7 : Bx w7 b 30 #[.string x, .int .i64 v1, .int .i64 v2] := by rw [hw7]; exact XF4.set rfl
  have X07 : Bx w7 w.heap.size 30 #[.string ByteArray.empty, .int .i64 0, .int .i64 0] := by rw [hw7]; exact X04.far hne2
  have HB7 : Below w.heap.size w w7 := by rw [hw7]; exact HB4.setCell (p := ⟨b, 2, none⟩) (by show _ ≤ b; omega) _
  rw [← hw7]
  clear hw7 XF4 X04 HB4 c2 c2f
  have d0 := XF7.c 0 rfl
  have d1 := XF7.c 1 rfl
  have d2 := XF7.c 2 rfl
  go_wp2_with (go_at_call 14; refine (HF.out w7).mono ?_)
  rintro ee w8 ⟨rfl, hb8⟩
  have XF8 := XF7.mono hb8
  have X08 := X07.mono hb8
  have HB8 := HB7.trans (hb8.mono HB7.size)
  clear hb8 XF7 X07 HB7 d0 d1 d2
  have d0 := XF8.c 0 rfl
  have d1 := XF8.c 1 rfl
  have d2 := XF8.c 2 rfl
  have g0 := X08.c 0 rfl
  have g1 := X08.c 1 rfl
  have g2 := X08.c 2 rfl
  have gf := X08.f
  go_wp2_with (fail)
  obtain ⟨w9, hw9⟩ : ∃ W, W = ((w8.setCell ⟨w.heap.size, 0, none⟩ (.string (ByteArray.mk #[]))).setCell ⟨w.heap.size, 1, none⟩ (.int .i64 0)).setCell ⟨w.heap.size, 2, none⟩ (.int .i64 0) := ⟨_, rfl⟩
  have X9 : Bx w9 w.heap.size 30 #[.string (ByteArray.mk #[]), .int .i64 0, .int .i64 0] := by rw [hw9]; exact ((X08.set rfl).set rfl).set rfl
  have HB9 : Below w.heap.size w w9 := by rw [hw9]; exact ((HB8.setCell (p := ⟨w.heap.size, 0, none⟩) (Nat.le_refl _) _).setCell (p := ⟨w.heap.size, 1, none⟩) (Nat.le_refl _) _).setCell (p := ⟨w.heap.size, 2, none⟩) (Nat.le_refl _) _
  first | rw [← hw9] | (show bodyPost _ _ _ _ _ _; rw [← hw9])
  clear hw9 X08 HB8 g0 g1 g2 gf d0 d1 d2 XF8
  have r0 := X9.c 0 rfl
  have r1 := X9.c 1 rfl
  have r2 := X9.c 2 rfl
  refine bodyPost_ret (v := .tuple #[fmv (ByteArray.mk #[]) 0 0, .bool false]) (by first | (simp only [results, Tryd.results16]; go_simp; done) | (simp [results, Tryd.results16, go_sem, *]; done)) rfl ⟨rfl, HB9⟩
set_option maxRecDepth 100000 in
set_option maxHeartbeats 8000000 in
theorem pfi_f {s x r y z T : ByteArray} {k1 k2 : Bool} {v1 v2 : Int} {w : World} (hC1 : (∀ W : World, Calls Tryd.prog 34 #[.string s, .string ⟨#[32]⟩] W fun ee w' => ee = .returned (.tuple #[.string x, .string r, .bool k1]) ∧ Below W.heap.size W w')) (hC2 : (∀ W : World, Calls Tryd.prog 34 #[.string r, .string ⟨#[32]⟩] W fun ee w' => ee = .returned (.tuple #[.string y, .string z, .bool k2]) ∧ Below W.heap.size W w')) (hA1 : (∀ W : World, Below w.heap.size w W → Calls Tryd.prog 35 #[.string y] W fun ee w' => ∃ ev, ee = .returned (.tuple #[.int .i64 v1, ev]) ∧ Below W.heap.size W w')) (hA2 : (∀ W : World, Below w.heap.size w W → Calls Tryd.prog 35 #[.string z] W fun ee w' => ∃ ev, ee = .returned (.tuple #[.int .i64 v2, ev]) ∧ Below W.heap.size W w')) (hF : (∀ W : World, Calls Tryd.prog 14 #[fmv x v1 v2] W fun ee w' => ee = .returned (.tuple #[.string T, .bool false]) ∧ Below W.heap.size W w')) (hx : ¬ (x = ByteArray.mk #[45])) :
    Calls Tryd.prog 16 #[.string s] w fun ee w' => ee = .returned (.tuple #[fmv (ByteArray.mk #[]) 0 0, .bool false]) ∧ Below w.heap.size w w' := by
  have HC1 := lay0 hC1
  have HC2 := lay0 hC2
  have HA1 := lay0 hA1
  have HA2 := lay0 hA2
  have HF := lay0 hF
  clear hC1 hC2 hA1 hA2 hF
  have hx2 : (x.toList == [45]) = false := nx45 hx
  go_enter Tryd.func16, Tryd.ntmps16
  go_upto_region 3 with (go_at_call 34; (first | ((with_reducible refine (HC1.out _).mono ?_); rintro ee w1 ⟨rfl, hb1⟩; have hz1 := hb1.size; (try simp only [World.size_alloc] at hz1)) | ((with_reducible refine (HC2.out _).mono ?_); rintro ee w2 ⟨rfl, hb2⟩; have hz2 := hb2.size)))
  have X0 : Bx w2 w.heap.size 30 #[.string ByteArray.empty, .int .i64 0, .int .i64 0] := ((Bx.new rfl).mono hb1).mono hb2
  have HB2 := lay0 (((Below.refl w.heap.size w).alloc (Nat.le_refl _) _).trans ((hb1.mono (by simp)).trans (hb2.mono (by omega))))
  have hz : w.heap.size < w2.heap.size := by omega
  clear hb1 hb2 hz1 hz2
  go_upto_region 6 with (fail)
  obtain ⟨b, hbn⟩ : ∃ b, b = w2.heap.size := ⟨_, rfl⟩
  obtain ⟨w5, hw5⟩ : ∃ W, W = w2.alloc (.cells #[.string x, .int .i64 0, .int .i64 0] 30) := ⟨_, rfl⟩
  have XF5 : Bx w5 b 30 #[.string x, .int .i64 0, .int .i64 0] := by rw [hw5]; exact Bx.new hbn
  have X05 : Bx w5 w.heap.size 30 #[.string ByteArray.empty, .int .i64 0, .int .i64 0] := by rw [hw5]; exact X0.alloc _
  have HB5 : Below w.heap.size w w5 := by rw [hw5]; exact HB2.out.alloc (by omega) _
  have hbz : w.heap.size < b := by omega
  have hne : b ≠ w.heap.size := by omega
  have hne2 : w.heap.size ≠ b := by omega
  rw [← hw5, ← hbn]
  clear hw5 hbn X0 HB2 hz
  go_wp2_with (go_at_call 35; refine (HA1.out w5 HB5).mono ?_)
  rintro ee w3 ⟨ev1, rfl, hb3⟩
  have XF3 := XF5.mono hb3
  have X03 := X05.mono hb3
  have HB3 := HB5.trans (hb3.mono HB5.size)
  have c1 := XF3.c 1 rfl
  have c1f := XF3.f 1
  clear hb3 XF5 X05 HB5
  go_upto_region 7 with (fail)
  obtain ⟨w6, hw6⟩ : ∃ W, W = w3.setCell ⟨b, 1, none⟩ (.int .i64 v1) := ⟨_, rfl⟩
  have XF6 : Bx w6 b 30 #[.string x, .int .i64 v1, .int .i64 0] := by rw [hw6]; exact XF3.set rfl
  have X06 : Bx w6 w.heap.size 30 #[.string ByteArray.empty, .int .i64 0, .int .i64 0] := by rw [hw6]; exact X03.far hne2
  have HB6 : Below w.heap.size w w6 := by rw [hw6]; exact HB3.setCell (p := ⟨b, 1, none⟩) (by show _ ≤ b; omega) _
  rw [← hw6]
  clear hw6 XF3 X03 HB3 c1 c1f
  go_wp2_with (go_at_call 35; refine (HA2.out w6 HB6).mono ?_)
  rintro ee w4 ⟨ev2, rfl, hb4⟩
  have XF4 := XF6.mono hb4
  have X04 := X06.mono hb4
  have HB4 := HB6.trans (hb4.mono HB6.size)
  have c2 := XF4.c 2 rfl
  have c2f := XF4.f 2
  clear hb4 XF6 X06 HB6
  go_upto_region 8 with (fail)
  obtain ⟨w7, hw7⟩ : ∃ W, W = w4.setCell ⟨b, 2, none⟩ (.int .i64 v2) := ⟨_, rfl⟩
  have XF7 : Bx w7 b 30 #[.string x, .int .i64 v1, .int .i64 v2] := by rw [hw7]; exact XF4.set rfl
  have X07 : Bx w7 w.heap.size 30 #[.string ByteArray.empty, .int .i64 0, .int .i64 0] := by rw [hw7]; exact X04.far hne2
  have HB7 : Below w.heap.size w w7 := by rw [hw7]; exact HB4.setCell (p := ⟨b, 2, none⟩) (by show _ ≤ b; omega) _
  rw [← hw7]
  clear hw7 XF4 X04 HB4 c2 c2f
  have d0 := XF7.c 0 rfl
  have d1 := XF7.c 1 rfl
  have d2 := XF7.c 2 rfl
  go_wp2_with (go_at_call 14; refine (HF.out w7).mono ?_)
  rintro ee w8 ⟨rfl, hb8⟩
  have XF8 := XF7.mono hb8
  have X08 := X07.mono hb8
  have HB8 := HB7.trans (hb8.mono HB7.size)
  clear hb8 XF7 X07 HB7 d0 d1 d2
  have d0 := XF8.c 0 rfl
  have d1 := XF8.c 1 rfl
  have d2 := XF8.c 2 rfl
  have g0 := X08.c 0 rfl
  have g1 := X08.c 1 rfl
  have g2 := X08.c 2 rfl
  have gf := X08.f
  go_wp2_with (fail)
  obtain ⟨w9, hw9⟩ : ∃ W, W = ((w8.setCell ⟨w.heap.size, 0, none⟩ (.string (ByteArray.mk #[]))).setCell ⟨w.heap.size, 1, none⟩ (.int .i64 0)).setCell ⟨w.heap.size, 2, none⟩ (.int .i64 0) := ⟨_, rfl⟩
  have X9 : Bx w9 w.heap.size 30 #[.string (ByteArray.mk #[]), .int .i64 0, .int .i64 0] := by rw [hw9]; exact ((X08.set rfl).set rfl).set rfl
  have HB9 : Below w.heap.size w w9 := by rw [hw9]; exact ((HB8.setCell (p := ⟨w.heap.size, 0, none⟩) (Nat.le_refl _) _).setCell (p := ⟨w.heap.size, 1, none⟩) (Nat.le_refl _) _).setCell (p := ⟨w.heap.size, 2, none⟩) (Nat.le_refl _) _
  first | rw [← hw9] | (show bodyPost _ _ _ _ _ _; rw [← hw9])
  clear hw9 X08 HB8 g0 g1 g2 gf d0 d1 d2 XF8
  have r0 := X9.c 0 rfl
  have r1 := X9.c 1 rfl
  have r2 := X9.c 2 rfl
  refine bodyPost_ret (v := .tuple #[fmv (ByteArray.mk #[]) 0 0, .bool false]) (by first | (simp only [results, Tryd.results16]; go_simp; done) | (simp [results, Tryd.results16, go_sem, *]; done)) rfl ⟨rfl, HB9⟩
set_option maxRecDepth 100000 in
set_option maxHeartbeats 8000000 in
theorem pfi_td {s x r y z T : ByteArray} {k1 k2 : Bool} {v1 v2 : Int} {w : World} (hC1 : (∀ W : World, Calls Tryd.prog 34 #[.string s, .string ⟨#[32]⟩] W fun ee w' => ee = .returned (.tuple #[.string ⟨#[45]⟩, .string r, .bool k1]) ∧ Below W.heap.size W w')) (hC2 : (∀ W : World, Calls Tryd.prog 34 #[.string r, .string ⟨#[32]⟩] W fun ee w' => ee = .returned (.tuple #[.string y, .string z, .bool k2]) ∧ Below W.heap.size W w')) (hA1 : (∀ W : World, Below w.heap.size w W → Calls Tryd.prog 35 #[.string y] W fun ee w' => ∃ ev, ee = .returned (.tuple #[.int .i64 v1, ev]) ∧ Below W.heap.size W w')) (hA2 : (∀ W : World, Below w.heap.size w W → Calls Tryd.prog 35 #[.string z] W fun ee w' => ∃ ev, ee = .returned (.tuple #[.int .i64 v2, ev]) ∧ Below W.heap.size W w')) (hF : (∀ W : World, Calls Tryd.prog 14 #[fmv (ByteArray.mk #[]) v1 v2] W fun ee w' => ee = .returned (.tuple #[.string s, .bool true]) ∧ Below W.heap.size W w')) :
    Calls Tryd.prog 16 #[.string s] w fun ee w' => ee = .returned (.tuple #[fmv (ByteArray.mk #[]) v1 v2, .bool true]) ∧ Below w.heap.size w w' := by
  have HC1 := lay0 hC1
  have HC2 := lay0 hC2
  have HA1 := lay0 hA1
  have HA2 := lay0 hA2
  have HF := lay0 hF
  clear hC1 hC2 hA1 hA2 hF
  go_enter Tryd.func16, Tryd.ntmps16
  go_upto_region 3 with (go_at_call 34; (first | ((with_reducible refine (HC1.out _).mono ?_); rintro ee w1 ⟨rfl, hb1⟩; have hz1 := hb1.size; (try simp only [World.size_alloc] at hz1)) | ((with_reducible refine (HC2.out _).mono ?_); rintro ee w2 ⟨rfl, hb2⟩; have hz2 := hb2.size)))
  have X0 : Bx w2 w.heap.size 30 #[.string ByteArray.empty, .int .i64 0, .int .i64 0] := ((Bx.new rfl).mono hb1).mono hb2
  have HB2 := lay0 (((Below.refl w.heap.size w).alloc (Nat.le_refl _) _).trans ((hb1.mono (by simp)).trans (hb2.mono (by omega))))
  have hz : w.heap.size < w2.heap.size := by omega
  clear hb1 hb2 hz1 hz2
  go_upto_region 6 with (fail)
  obtain ⟨b, hbn⟩ : ∃ b, b = w2.heap.size := ⟨_, rfl⟩
  obtain ⟨w5, hw5⟩ : ∃ W, W = w2.alloc (.cells #[.string (ByteArray.mk #[]), .int .i64 0, .int .i64 0] 30) := ⟨_, rfl⟩
  have XF5 : Bx w5 b 30 #[.string (ByteArray.mk #[]), .int .i64 0, .int .i64 0] := by rw [hw5]; exact Bx.new hbn
  have X05 : Bx w5 w.heap.size 30 #[.string ByteArray.empty, .int .i64 0, .int .i64 0] := by rw [hw5]; exact X0.alloc _
  have HB5 : Below w.heap.size w w5 := by rw [hw5]; exact HB2.out.alloc (by omega) _
  have hbz : w.heap.size < b := by omega
  have hne : b ≠ w.heap.size := by omega
  have hne2 : w.heap.size ≠ b := by omega
  rw [← hw5, ← hbn]
  clear hw5 hbn X0 HB2 hz
  go_wp2_with (go_at_call 35; refine (HA1.out w5 HB5).mono ?_)
  rintro ee w3 ⟨ev1, rfl, hb3⟩
  have XF3 := XF5.mono hb3
  have X03 := X05.mono hb3
  have HB3 := HB5.trans (hb3.mono HB5.size)
  have c1 := XF3.c 1 rfl
  have c1f := XF3.f 1
  clear hb3 XF5 X05 HB5
  go_upto_region 7 with (fail)
  obtain ⟨w6, hw6⟩ : ∃ W, W = w3.setCell ⟨b, 1, none⟩ (.int .i64 v1) := ⟨_, rfl⟩
  have XF6 : Bx w6 b 30 #[.string (ByteArray.mk #[]), .int .i64 v1, .int .i64 0] := by rw [hw6]; exact XF3.set rfl
  have X06 : Bx w6 w.heap.size 30 #[.string ByteArray.empty, .int .i64 0, .int .i64 0] := by rw [hw6]; exact X03.far hne2
  have HB6 : Below w.heap.size w w6 := by rw [hw6]; exact HB3.setCell (p := ⟨b, 1, none⟩) (by show _ ≤ b; omega) _
  rw [← hw6]
  clear hw6 XF3 X03 HB3 c1 c1f
  go_wp2_with (go_at_call 35; refine (HA2.out w6 HB6).mono ?_)
  rintro ee w4 ⟨ev2, rfl, hb4⟩
  have XF4 := XF6.mono hb4
  have X04 := X06.mono hb4
  have HB4 := HB6.trans (hb4.mono HB6.size)
  have c2 := XF4.c 2 rfl
  have c2f := XF4.f 2
  clear hb4 XF6 X06 HB6
  go_upto_region 8 with (fail)
  obtain ⟨w7, hw7⟩ : ∃ W, W = w4.setCell ⟨b, 2, none⟩ (.int .i64 v2) := ⟨_, rfl⟩
  have XF7 : Bx w7 b 30 #[.string (ByteArray.mk #[]), .int .i64 v1, .int .i64 v2] := by rw [hw7]; exact XF4.set rfl
  have X07 : Bx w7 w.heap.size 30 #[.string ByteArray.empty, .int .i64 0, .int .i64 0] := by rw [hw7]; exact X04.far hne2
  have HB7 : Below w.heap.size w w7 := by rw [hw7]; exact HB4.setCell (p := ⟨b, 2, none⟩) (by show _ ≤ b; omega) _
  rw [← hw7]
  clear hw7 XF4 X04 HB4 c2 c2f
  have d0 := XF7.c 0 rfl
  have d1 := XF7.c 1 rfl
  have d2 := XF7.c 2 rfl
  go_wp2_with (go_at_call 14; refine (HF.out w7).mono ?_)
  rintro ee w8 ⟨rfl, hb8⟩
  have XF8 := XF7.mono hb8
  have X08 := X07.mono hb8
  have HB8 := HB7.trans (hb8.mono HB7.size)
  clear hb8 XF7 X07 HB7 d0 d1 d2
  have d0 := XF8.c 0 rfl
  have d1 := XF8.c 1 rfl
  have d2 := XF8.c 2 rfl
  have g0 := X08.c 0 rfl
  have g1 := X08.c 1 rfl
  have g2 := X08.c 2 rfl
  have gf := X08.f
  go_wp2_with (fail)
  obtain ⟨w9, hw9⟩ : ∃ W, W = ((w8.setCell ⟨w.heap.size, 0, none⟩ (.string (ByteArray.mk #[]))).setCell ⟨w.heap.size, 1, none⟩ (.int .i64 v1)).setCell ⟨w.heap.size, 2, none⟩ (.int .i64 v2) := ⟨_, rfl⟩
  have X9 : Bx w9 w.heap.size 30 #[.string (ByteArray.mk #[]), .int .i64 v1, .int .i64 v2] := by rw [hw9]; exact ((X08.set rfl).set rfl).set rfl
  have HB9 : Below w.heap.size w w9 := by rw [hw9]; exact ((HB8.setCell (p := ⟨w.heap.size, 0, none⟩) (Nat.le_refl _) _).setCell (p := ⟨w.heap.size, 1, none⟩) (Nat.le_refl _) _).setCell (p := ⟨w.heap.size, 2, none⟩) (Nat.le_refl _) _
  first | rw [← hw9] | (show bodyPost _ _ _ _ _ _; rw [← hw9])
  clear hw9 X08 HB8 g0 g1 g2 gf d0 d1 d2 XF8
  have r0 := X9.c 0 rfl
  have r1 := X9.c 1 rfl
  have r2 := X9.c 2 rfl
  refine bodyPost_ret (v := .tuple #[fmv (ByteArray.mk #[]) v1 v2, .bool true]) (by first | (simp only [results, Tryd.results16]; go_simp; done) | (simp [results, Tryd.results16, go_sem, *]; done)) rfl ⟨rfl, HB9⟩
set_option maxRecDepth 100000 in
set_option maxHeartbeats 8000000 in
theorem pfi_nd {s x r y z T : ByteArray} {k1 k2 : Bool} {v1 v2 : Int} {w : World} (hC1 : (∀ W : World, Calls Tryd.prog 34 #[.string s, .string ⟨#[32]⟩] W fun ee w' => ee = .returned (.tuple #[.string ⟨#[45]⟩, .string r, .bool k1]) ∧ Below W.heap.size W w')) (hC2 : (∀ W : World, Calls Tryd.prog 34 #[.string r, .string ⟨#[32]⟩] W fun ee w' => ee = .returned (.tuple #[.string y, .string z, .bool k2]) ∧ Below W.heap.size W w')) (hA1 : (∀ W : World, Below w.heap.size w W → Calls Tryd.prog 35 #[.string y] W fun ee w' => ∃ ev, ee = .returned (.tuple #[.int .i64 v1, ev]) ∧ Below W.heap.size W w')) (hA2 : (∀ W : World, Below w.heap.size w W → Calls Tryd.prog 35 #[.string z] W fun ee w' => ∃ ev, ee = .returned (.tuple #[.int .i64 v2, ev]) ∧ Below W.heap.size W w')) (hF : (∀ W : World, Calls Tryd.prog 14 #[fmv (ByteArray.mk #[]) v1 v2] W fun ee w' => ee = .returned (.tuple #[.string T, .bool true]) ∧ Below W.heap.size W w')) (hT : ¬ (T = s)) :
    Calls Tryd.prog 16 #[.string s] w fun ee w' => ee = .returned (.tuple #[fmv (ByteArray.mk #[]) 0 0, .bool false]) ∧ Below w.heap.size w w' := by
  have HC1 := lay0 hC1
  have HC2 := lay0 hC2
  have HA1 := lay0 hA1
  have HA2 := lay0 hA2
  have HF := lay0 hF
  clear hC1 hC2 hA1 hA2 hF
  have hT2 : (T.toList == s.toList) = false := neb hT
  go_enter Tryd.func16, Tryd.ntmps16
  go_upto_region 3 with (go_at_call 34; (first | ((with_reducible refine (HC1.out _).mono ?_); rintro ee w1 ⟨rfl, hb1⟩; have hz1 := hb1.size; (try simp only [World.size_alloc] at hz1)) | ((with_reducible refine (HC2.out _).mono ?_); rintro ee w2 ⟨rfl, hb2⟩; have hz2 := hb2.size)))
  have X0 : Bx w2 w.heap.size 30 #[.string ByteArray.empty, .int .i64 0, .int .i64 0] := ((Bx.new rfl).mono hb1).mono hb2
  have HB2 := lay0 (((Below.refl w.heap.size w).alloc (Nat.le_refl _) _).trans ((hb1.mono (by simp)).trans (hb2.mono (by omega))))
  have hz : w.heap.size < w2.heap.size := by omega
  clear hb1 hb2 hz1 hz2
  go_upto_region 6 with (fail)
  obtain ⟨b, hbn⟩ : ∃ b, b = w2.heap.size := ⟨_, rfl⟩
  obtain ⟨w5, hw5⟩ : ∃ W, W = w2.alloc (.cells #[.string (ByteArray.mk #[]), .int .i64 0, .int .i64 0] 30) := ⟨_, rfl⟩
  have XF5 : Bx w5 b 30 #[.string (ByteArray.mk #[]), .int .i64 0, .int .i64 0] := by rw [hw5]; exact Bx.new hbn
  have X05 : Bx w5 w.heap.size 30 #[.string ByteArray.empty, .int .i64 0, .int .i64 0] := by rw [hw5]; exact X0.alloc _
  have HB5 : Below w.heap.size w w5 := by rw [hw5]; exact HB2.out.alloc (by omega) _
  have hbz : w.heap.size < b := by omega
  have hne : b ≠ w.heap.size := by omega
  have hne2 : w.heap.size ≠ b := by omega
  rw [← hw5, ← hbn]
  clear hw5 hbn X0 HB2 hz
  go_wp2_with (go_at_call 35; refine (HA1.out w5 HB5).mono ?_)
  rintro ee w3 ⟨ev1, rfl, hb3⟩
  have XF3 := XF5.mono hb3
  have X03 := X05.mono hb3
  have HB3 := HB5.trans (hb3.mono HB5.size)
  have c1 := XF3.c 1 rfl
  have c1f := XF3.f 1
  clear hb3 XF5 X05 HB5
  go_upto_region 7 with (fail)
  obtain ⟨w6, hw6⟩ : ∃ W, W = w3.setCell ⟨b, 1, none⟩ (.int .i64 v1) := ⟨_, rfl⟩
  have XF6 : Bx w6 b 30 #[.string (ByteArray.mk #[]), .int .i64 v1, .int .i64 0] := by rw [hw6]; exact XF3.set rfl
  have X06 : Bx w6 w.heap.size 30 #[.string ByteArray.empty, .int .i64 0, .int .i64 0] := by rw [hw6]; exact X03.far hne2
  have HB6 : Below w.heap.size w w6 := by rw [hw6]; exact HB3.setCell (p := ⟨b, 1, none⟩) (by show _ ≤ b; omega) _
  rw [← hw6]
  clear hw6 XF3 X03 HB3 c1 c1f
  go_wp2_with (go_at_call 35; refine (HA2.out w6 HB6).mono ?_)
  rintro ee w4 ⟨ev2, rfl, hb4⟩
  have XF4 := XF6.mono hb4
  have X04 := X06.mono hb4
  have HB4 := HB6.trans (hb4.mono HB6.size)
  have c2 := XF4.c 2 rfl
  have c2f := XF4.f 2
  clear hb4 XF6 X06 HB6
  go_upto_region 8 with (fail)
  obtain ⟨w7, hw7⟩ : ∃ W, W = w4.setCell ⟨b, 2, none⟩ (.int .i64 v2) := ⟨_, rfl⟩
  have XF7 : Bx w7 b 30 #[.string (ByteArray.mk #[]), .int .i64 v1, .int .i64 v2] := by rw [hw7]; exact XF4.set rfl
  have X07 : Bx w7 w.heap.size 30 #[.string ByteArray.empty, .int .i64 0, .int .i64 0] := by rw [hw7]; exact X04.far hne2
  have HB7 : Below w.heap.size w w7 := by rw [hw7]; exact HB4.setCell (p := ⟨b, 2, none⟩) (by show _ ≤ b; omega) _
  rw [← hw7]
  clear hw7 XF4 X04 HB4 c2 c2f
  have d0 := XF7.c 0 rfl
  have d1 := XF7.c 1 rfl
  have d2 := XF7.c 2 rfl
  go_wp2_with (go_at_call 14; refine (HF.out w7).mono ?_)
  rintro ee w8 ⟨rfl, hb8⟩
  have XF8 := XF7.mono hb8
  have X08 := X07.mono hb8
  have HB8 := HB7.trans (hb8.mono HB7.size)
  clear hb8 XF7 X07 HB7 d0 d1 d2
  have d0 := XF8.c 0 rfl
  have d1 := XF8.c 1 rfl
  have d2 := XF8.c 2 rfl
  have g0 := X08.c 0 rfl
  have g1 := X08.c 1 rfl
  have g2 := X08.c 2 rfl
  have gf := X08.f
  go_wp2_with (fail)
  obtain ⟨w9, hw9⟩ : ∃ W, W = ((w8.setCell ⟨w.heap.size, 0, none⟩ (.string (ByteArray.mk #[]))).setCell ⟨w.heap.size, 1, none⟩ (.int .i64 0)).setCell ⟨w.heap.size, 2, none⟩ (.int .i64 0) := ⟨_, rfl⟩
  have X9 : Bx w9 w.heap.size 30 #[.string (ByteArray.mk #[]), .int .i64 0, .int .i64 0] := by rw [hw9]; exact ((X08.set rfl).set rfl).set rfl
  have HB9 : Below w.heap.size w w9 := by rw [hw9]; exact ((HB8.setCell (p := ⟨w.heap.size, 0, none⟩) (Nat.le_refl _) _).setCell (p := ⟨w.heap.size, 1, none⟩) (Nat.le_refl _) _).setCell (p := ⟨w.heap.size, 2, none⟩) (Nat.le_refl _) _
  first | rw [← hw9] | (show bodyPost _ _ _ _ _ _; rw [← hw9])
  clear hw9 X08 HB8 g0 g1 g2 gf d0 d1 d2 XF8
  have r0 := X9.c 0 rfl
  have r1 := X9.c 1 rfl
  have r2 := X9.c 2 rfl
  refine bodyPost_ret (v := .tuple #[fmv (ByteArray.mk #[]) 0 0, .bool false]) (by first | (simp only [results, Tryd.results16]; go_simp; done) | (simp [results, Tryd.results16, go_sem, *]; done)) rfl ⟨rfl, HB9⟩
set_option maxRecDepth 100000 in
set_option maxHeartbeats 8000000 in
theorem pfi_fd {s x r y z T : ByteArray} {k1 k2 : Bool} {v1 v2 : Int} {w : World} (hC1 : (∀ W : World, Calls Tryd.prog 34 #[.string s, .string ⟨#[32]⟩] W fun ee w' => ee = .returned (.tuple #[.string ⟨#[45]⟩, .string r, .bool k1]) ∧ Below W.heap.size W w')) (hC2 : (∀ W : World, Calls Tryd.prog 34 #[.string r, .string ⟨#[32]⟩] W fun ee w' => ee = .returned (.tuple #[.string y, .string z, .bool k2]) ∧ Below W.heap.size W w')) (hA1 : (∀ W : World, Below w.heap.size w W → Calls Tryd.prog 35 #[.string y] W fun ee w' => ∃ ev, ee = .returned (.tuple #[.int .i64 v1, ev]) ∧ Below W.heap.size W w')) (hA2 : (∀ W : World, Below w.heap.size w W → Calls Tryd.prog 35 #[.string z] W fun ee w' => ∃ ev, ee = .returned (.tuple #[.int .i64 v2, ev]) ∧ Below W.heap.size W w')) (hF : (∀ W : World, Calls Tryd.prog 14 #[fmv (ByteArray.mk #[]) v1 v2] W fun ee w' => ee = .returned (.tuple #[.string T, .bool false]) ∧ Below W.heap.size W w')) :
    Calls Tryd.prog 16 #[.string s] w fun ee w' => ee = .returned (.tuple #[fmv (ByteArray.mk #[]) 0 0, .bool false]) ∧ Below w.heap.size w w' := by
  have HC1 := lay0 hC1
  have HC2 := lay0 hC2
  have HA1 := lay0 hA1
  have HA2 := lay0 hA2
  have HF := lay0 hF
  clear hC1 hC2 hA1 hA2 hF
  go_enter Tryd.func16, Tryd.ntmps16
  go_upto_region 3 with (go_at_call 34; (first | ((with_reducible refine (HC1.out _).mono ?_); rintro ee w1 ⟨rfl, hb1⟩; have hz1 := hb1.size; (try simp only [World.size_alloc] at hz1)) | ((with_reducible refine (HC2.out _).mono ?_); rintro ee w2 ⟨rfl, hb2⟩; have hz2 := hb2.size)))
  have X0 : Bx w2 w.heap.size 30 #[.string ByteArray.empty, .int .i64 0, .int .i64 0] := ((Bx.new rfl).mono hb1).mono hb2
  have HB2 := lay0 (((Below.refl w.heap.size w).alloc (Nat.le_refl _) _).trans ((hb1.mono (by simp)).trans (hb2.mono (by omega))))
  have hz : w.heap.size < w2.heap.size := by omega
  clear hb1 hb2 hz1 hz2
  go_upto_region 6 with (fail)
  obtain ⟨b, hbn⟩ : ∃ b, b = w2.heap.size := ⟨_, rfl⟩
  obtain ⟨w5, hw5⟩ : ∃ W, W = w2.alloc (.cells #[.string (ByteArray.mk #[]), .int .i64 0, .int .i64 0] 30) := ⟨_, rfl⟩
  have XF5 : Bx w5 b 30 #[.string (ByteArray.mk #[]), .int .i64 0, .int .i64 0] := by rw [hw5]; exact Bx.new hbn
  have X05 : Bx w5 w.heap.size 30 #[.string ByteArray.empty, .int .i64 0, .int .i64 0] := by rw [hw5]; exact X0.alloc _
  have HB5 : Below w.heap.size w w5 := by rw [hw5]; exact HB2.out.alloc (by omega) _
  have hbz : w.heap.size < b := by omega
  have hne : b ≠ w.heap.size := by omega
  have hne2 : w.heap.size ≠ b := by omega
  rw [← hw5, ← hbn]
  clear hw5 hbn X0 HB2 hz
  go_wp2_with (go_at_call 35; refine (HA1.out w5 HB5).mono ?_)
  rintro ee w3 ⟨ev1, rfl, hb3⟩
  have XF3 := XF5.mono hb3
  have X03 := X05.mono hb3
  have HB3 := HB5.trans (hb3.mono HB5.size)
  have c1 := XF3.c 1 rfl
  have c1f := XF3.f 1
  clear hb3 XF5 X05 HB5
  go_upto_region 7 with (fail)
  obtain ⟨w6, hw6⟩ : ∃ W, W = w3.setCell ⟨b, 1, none⟩ (.int .i64 v1) := ⟨_, rfl⟩
  have XF6 : Bx w6 b 30 #[.string (ByteArray.mk #[]), .int .i64 v1, .int .i64 0] := by rw [hw6]; exact XF3.set rfl
  have X06 : Bx w6 w.heap.size 30 #[.string ByteArray.empty, .int .i64 0, .int .i64 0] := by rw [hw6]; exact X03.far hne2
  have HB6 : Below w.heap.size w w6 := by rw [hw6]; exact HB3.setCell (p := ⟨b, 1, none⟩) (by show _ ≤ b; omega) _
  rw [← hw6]
  clear hw6 XF3 X03 HB3 c1 c1f
  go_wp2_with (go_at_call 35; refine (HA2.out w6 HB6).mono ?_)
  rintro ee w4 ⟨ev2, rfl, hb4⟩
  have XF4 := XF6.mono hb4
  have X04 := X06.mono hb4
  have HB4 := HB6.trans (hb4.mono HB6.size)
  have c2 := XF4.c 2 rfl
  have c2f := XF4.f 2
  clear hb4 XF6 X06 HB6
  go_upto_region 8 with (fail)
  obtain ⟨w7, hw7⟩ : ∃ W, W = w4.setCell ⟨b, 2, none⟩ (.int .i64 v2) := ⟨_, rfl⟩
  have XF7 : Bx w7 b 30 #[.string (ByteArray.mk #[]), .int .i64 v1, .int .i64 v2] := by rw [hw7]; exact XF4.set rfl
  have X07 : Bx w7 w.heap.size 30 #[.string ByteArray.empty, .int .i64 0, .int .i64 0] := by rw [hw7]; exact X04.far hne2
  have HB7 : Below w.heap.size w w7 := by rw [hw7]; exact HB4.setCell (p := ⟨b, 2, none⟩) (by show _ ≤ b; omega) _
  rw [← hw7]
  clear hw7 XF4 X04 HB4 c2 c2f
  have d0 := XF7.c 0 rfl
  have d1 := XF7.c 1 rfl
  have d2 := XF7.c 2 rfl
  go_wp2_with (go_at_call 14; refine (HF.out w7).mono ?_)
  rintro ee w8 ⟨rfl, hb8⟩
  have XF8 := XF7.mono hb8
  have X08 := X07.mono hb8
  have HB8 := HB7.trans (hb8.mono HB7.size)
  clear hb8 XF7 X07 HB7 d0 d1 d2
  have d0 := XF8.c 0 rfl
  have d1 := XF8.c 1 rfl
  have d2 := XF8.c 2 rfl
  have g0 := X08.c 0 rfl
  have g1 := X08.c 1 rfl
  have g2 := X08.c 2 rfl
  have gf := X08.f
  go_wp2_with (fail)
  obtain ⟨w9, hw9⟩ : ∃ W, W = ((w8.setCell ⟨w.heap.size, 0, none⟩ (.string (ByteArray.mk #[]))).setCell ⟨w.heap.size, 1, none⟩ (.int .i64 0)).setCell ⟨w.heap.size, 2, none⟩ (.int .i64 0) := ⟨_, rfl⟩
  have X9 : Bx w9 w.heap.size 30 #[.string (ByteArray.mk #[]), .int .i64 0, .int .i64 0] := by rw [hw9]; exact ((X08.set rfl).set rfl).set rfl
  have HB9 : Below w.heap.size w w9 := by rw [hw9]; exact ((HB8.setCell (p := ⟨w.heap.size, 0, none⟩) (Nat.le_refl _) _).setCell (p := ⟨w.heap.size, 1, none⟩) (Nat.le_refl _) _).setCell (p := ⟨w.heap.size, 2, none⟩) (Nat.le_refl _) _
  first | rw [← hw9] | (show bodyPost _ _ _ _ _ _; rw [← hw9])
  clear hw9 X08 HB8 g0 g1 g2 gf d0 d1 d2 XF8
  have r0 := X9.c 0 rfl
  have r1 := X9.c 1 rfl
  have r2 := X9.c 2 rfl
  refine bodyPost_ret (v := .tuple #[fmv (ByteArray.mk #[]) 0 0, .bool false]) (by first | (simp only [results, Tryd.results16]; go_simp; done) | (simp [results, Tryd.results16, go_sem, *]; done)) rfl ⟨rfl, HB9⟩

end Go.Proofs.YtofclfgaekjonaaDoor
