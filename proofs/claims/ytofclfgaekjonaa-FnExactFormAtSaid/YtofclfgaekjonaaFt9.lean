/- FormAt: the model; where it fails. -/
import Derived.Test.YtofclfgaekjonaaFs
namespace Go.Proofs.Ytofclfgaekjonaa
open Go.RowKit RM
set_option linter.unusedVariables false
set_option linter.unusedSimpArgs false
attribute [local irreducible] World.setCell

set_option maxRecDepth 100000 in
set_option maxHeartbeats 4000000 in
theorem fs_t {n k : Nat} {c : Int} (hn : n ≤ 20) (hk : (k : Int) < cntI n) (hc : c = (k : Int) % 24) (w : World) :
    Calls Try.prog 47 #[.int .i64 (n : Int), .int .i64 (k : Int)] w fun ee w' => ee = .returned (.tuple #[fmv (strOfNums (faL n (k / 24))) c 0, .bool true]) ∧ Below w.heap.size w w' := by
  obtain ⟨c1, c2⟩ := cnt_tab n hn
  have HAT := hid (fun w => at_s hn hk hc w)
  obtain ⟨C, hC⟩ : ∃ C, C = cntI n := ⟨_, rfl⟩
  have HCT : Hid (∀ w, Calls Try.prog 101 #[.int .i64 (n : Int)] w fun ee w' => ee = .returned (.int .i64 C) ∧ w = w') := hid (by intro w; rw [hC]; exact ct_s hn w)
  rw [← hC] at c1 c2 hk
  obtain ⟨st, hst⟩ : ∃ st, st = strOfNums (faL n (k / 24)) := ⟨_, rfl⟩
  rw [← hst] at HAT ⊢
  have k1 : (0 : Int) ≤ (k : Int) := by omega
  have k2 : (k : Int) ≤ C - 1 := by omega
  have n2 : (n : Int) ≤ 20 := by omega
  have n1 : (0 : Int) ≤ (n : Int) := by omega
  have k3 : (k : Int) ≤ 37748736 := by omega
  clear hC hst hc
  go_enter Try.func47, Try.ntmps47
  go_upto_region 1 with (fail)
  obtain ⟨W, hW⟩ : ∃ W : World, W = w.alloc (.cells #[.string (ByteArray.mk #[]), .int .i64 0, .int .i64 0] 73) := ⟨_, rfl⟩
  have hBW : Below w.heap.size w W := by rw [hW]; exact (Below.refl _ _).alloc (Nat.le_refl _) _
  have XR : Hid (Bx W w.heap.size 73 #[.string (ByteArray.mk #[]), .int .i64 0, .int .i64 0]) := by rw [hW]; exact Bx.new rfl
  rw [← hW]
  clear hW
  go_wp2_with ((first | (go_at_call 100; ((refine (in_t (by omega) (by omega) _).mono ?_); rintro ee w1 ⟨rfl, rfl⟩)) | (go_at_call 101; ((refine (HCT.out _).mono ?_); rintro ee w1 ⟨rfl, rfl⟩))))
  refine (HAT.out _).mono ?_
  rintro ee w1 ⟨rfl, hb1⟩
  have hB1 : Below w.heap.size w w1 := chain hBW hb1 hBW.size
  replace XR := hid (XR.out.mono hb1)
  clear hb1 hBW
  have r0 := XR.out.c 0 rfl
  have r1 := XR.out.c 1 rfl
  have r2 := XR.out.c 2 rfl
  have rf := XR.out.f
  have rl := XR.out.lt
  go_wp2_with (fail)
  refine bodyPost_ret (v := .tuple #[fmv st c 0, .bool true]) (by first | (simp only [results, Try.results47]; go_simp; done) | (simp [results, Try.results47, go_sem, *]; done)) rfl ⟨rfl, ((hB1.setCell (by show _ ≤ w.heap.size; omega) _).setCell (by show _ ≤ w.heap.size; omega) _).setCell (by show _ ≤ w.heap.size; omega) _⟩

set_option maxRecDepth 100000 in
set_option maxHeartbeats 4000000 in
theorem fs_f1 {n k : Int} (hn : n < 0 ∨ 20 < n) (w : World) :
    Calls Try.prog 47 #[.int .i64 n, .int .i64 k] w fun ee w' => ee = .returned (.tuple #[fmv (ByteArray.mk #[]) 0 0, .bool false]) ∧ Below w.heap.size w w' := by
  have HN := hid hn
  clear hn
  go_enter Try.func47, Try.ntmps47
  go_upto_region 1 with (fail)
  obtain ⟨W, hW⟩ : ∃ W : World, W = w.alloc (.cells #[.string (ByteArray.mk #[]), .int .i64 0, .int .i64 0] 73) := ⟨_, rfl⟩
  have hBW : Below w.heap.size w W := by rw [hW]; exact (Below.refl _ _).alloc (Nat.le_refl _) _
  have XR : Hid (Bx W w.heap.size 73 #[.string (ByteArray.mk #[]), .int .i64 0, .int .i64 0]) := by rw [hW]; exact Bx.new rfl
  rw [← hW]
  clear hW
  have r0 := XR.out.c 0 rfl
  have r1 := XR.out.c 1 rfl
  have r2 := XR.out.c 2 rfl
  have rf := XR.out.f
  have rl := XR.out.lt
  go_wp2_with ((go_at_call 100; ((refine (in_f HN.out _).mono ?_); rintro ee w1 ⟨rfl, rfl⟩)))
  refine bodyPost_ret (v := .tuple #[fmv (ByteArray.mk #[]) 0 0, .bool false]) (by first | (simp only [results, Try.results47]; go_simp; done) | (simp [results, Try.results47, go_sem, *]; done)) rfl ⟨rfl, ((hBW.setCell (by show _ ≤ w.heap.size; omega) _).setCell (by show _ ≤ w.heap.size; omega) _).setCell (by show _ ≤ w.heap.size; omega) _⟩

set_option maxRecDepth 100000 in
set_option maxHeartbeats 4000000 in
theorem fs_f2 {n : Nat} {k : Int} (hn : n ≤ 20) (hk : k < 0 ∨ cntI n ≤ k) (w : World) :
    Calls Try.prog 47 #[.int .i64 (n : Int), .int .i64 k] w fun ee w' => ee = .returned (.tuple #[fmv (ByteArray.mk #[]) 0 0, .bool false]) ∧ Below w.heap.size w w' := by
  obtain ⟨c1, c2⟩ := cnt_tab n hn
  obtain ⟨C, hC⟩ : ∃ C, C = cntI n := ⟨_, rfl⟩
  have HCT : Hid (∀ w, Calls Try.prog 101 #[.int .i64 (n : Int)] w fun ee w' => ee = .returned (.int .i64 C) ∧ w = w') := hid (by intro w; rw [hC]; exact ct_s hn w)
  rw [← hC] at c1 c2 hk
  have HK : Hid (k < 0 ∨ C - 1 < k) := hid (by omega)
  have n2 : (n : Int) ≤ 20 := by omega
  have n1 : (0 : Int) ≤ (n : Int) := by omega
  clear hC hk
  go_enter Try.func47, Try.ntmps47
  go_upto_region 1 with (fail)
  obtain ⟨W, hW⟩ : ∃ W : World, W = w.alloc (.cells #[.string (ByteArray.mk #[]), .int .i64 0, .int .i64 0] 73) := ⟨_, rfl⟩
  have hBW : Below w.heap.size w W := by rw [hW]; exact (Below.refl _ _).alloc (Nat.le_refl _) _
  have XR : Hid (Bx W w.heap.size 73 #[.string (ByteArray.mk #[]), .int .i64 0, .int .i64 0]) := by rw [hW]; exact Bx.new rfl
  rw [← hW]
  clear hW
  have r0 := XR.out.c 0 rfl
  have r1 := XR.out.c 1 rfl
  have r2 := XR.out.c 2 rfl
  have rf := XR.out.f
  have rl := XR.out.lt
  go_wp2_with ((first | (go_at_call 101; ((refine (HCT.out _).mono ?_); rintro ee w1 ⟨rfl, rfl⟩)) | (go_at_call 100; ((with_reducible refine (in_t n1 n2 _).mono ?_); rintro ee w1 ⟨rfl, rfl⟩)) | (go_at_call 100; ((with_reducible refine (in_f HK.out _).mono ?_); rintro ee w1 ⟨rfl, rfl⟩))))
  refine bodyPost_ret (v := .tuple #[fmv (ByteArray.mk #[]) 0 0, .bool false]) (by first | (simp only [results, Try.results47]; go_simp; done) | (simp [results, Try.results47, go_sem, *]; done)) rfl ⟨rfl, ((hBW.setCell (by show _ ≤ w.heap.size; omega) _).setCell (by show _ ≤ w.heap.size; omega) _).setCell (by show _ ≤ w.heap.size; omega) _⟩

set_option maxRecDepth 100000 in
set_option maxHeartbeats 4000000 in
theorem fi_f1 {n k : Int} (hn : n < 0 ∨ 20 < n) (w : World) :
    Calls Try.prog 48 #[.int .i64 n, .int .i64 k] w fun ee w' => ee = .returned (.tuple #[fmv (ByteArray.mk #[]) 0 0, .bool false]) ∧ Below w.heap.size w w' := by
  have HN := hid hn
  clear hn
  go_enter Try.func48, Try.ntmps48
  go_upto_region 1 with (fail)
  obtain ⟨W, hW⟩ : ∃ W : World, W = w.alloc (.cells #[.string (ByteArray.mk #[]), .int .i64 0, .int .i64 0] 73) := ⟨_, rfl⟩
  have hBW : Below w.heap.size w W := by rw [hW]; exact (Below.refl _ _).alloc (Nat.le_refl _) _
  have XR : Hid (Bx W w.heap.size 73 #[.string (ByteArray.mk #[]), .int .i64 0, .int .i64 0]) := by rw [hW]; exact Bx.new rfl
  rw [← hW]
  clear hW
  have r0 := XR.out.c 0 rfl
  have r1 := XR.out.c 1 rfl
  have r2 := XR.out.c 2 rfl
  have rf := XR.out.f
  have rl := XR.out.lt
  go_wp2_with ((go_at_call 46; ((refine (cf_i_f HN.out _).mono ?_); rintro ee w1 ⟨rfl, rfl⟩)))
  refine bodyPost_ret (v := .tuple #[fmv (ByteArray.mk #[]) 0 0, .bool false]) (by first | (simp only [results, Try.results48]; go_simp; done) | (simp [results, Try.results48, go_sem, *]; done)) rfl ⟨rfl, ((hBW.setCell (by show _ ≤ w.heap.size; omega) _).setCell (by show _ ≤ w.heap.size; omega) _).setCell (by show _ ≤ w.heap.size; omega) _⟩

set_option maxRecDepth 100000 in
set_option maxHeartbeats 4000000 in
theorem fi_f2a {n : Nat} {k : Int} (hn : n ≤ 20) (hk : k < 0) (w : World) :
    Calls Try.prog 48 #[.int .i64 (n : Int), .int .i64 k] w fun ee w' => ee = .returned (.tuple #[fmv (ByteArray.mk #[]) 0 0, .bool false]) ∧ Below w.heap.size w w' := by
  obtain ⟨c1, c2⟩ := cnt_tab n hn
  obtain ⟨C, hC⟩ : ∃ C, C = cntI n := ⟨_, rfl⟩
  have HCF : Hid (∀ w, Calls Try.prog 46 #[.int .i64 (n : Int)] w fun ee w' => ee = .returned (.tuple #[.int .i64 C, .bool true]) ∧ w = w') := hid (by intro w; rw [hC]; exact cf_i_t hn w)
  rw [← hC] at c1 c2
  clear hC
  go_enter Try.func48, Try.ntmps48
  go_upto_region 1 with (fail)
  obtain ⟨W, hW⟩ : ∃ W : World, W = w.alloc (.cells #[.string (ByteArray.mk #[]), .int .i64 0, .int .i64 0] 73) := ⟨_, rfl⟩
  have hBW : Below w.heap.size w W := by rw [hW]; exact (Below.refl _ _).alloc (Nat.le_refl _) _
  have XR : Hid (Bx W w.heap.size 73 #[.string (ByteArray.mk #[]), .int .i64 0, .int .i64 0]) := by rw [hW]; exact Bx.new rfl
  rw [← hW]
  clear hW
  have r0 := XR.out.c 0 rfl
  have r1 := XR.out.c 1 rfl
  have r2 := XR.out.c 2 rfl
  have rf := XR.out.f
  have rl := XR.out.lt
  go_wp2_with ((go_at_call 46; ((refine (HCF.out _).mono ?_); rintro ee w1 ⟨rfl, rfl⟩)))
  refine bodyPost_ret (v := .tuple #[fmv (ByteArray.mk #[]) 0 0, .bool false]) (by first | (simp only [results, Try.results48]; go_simp; done) | (simp [results, Try.results48, go_sem, *]; done)) rfl ⟨rfl, ((hBW.setCell (by show _ ≤ w.heap.size; omega) _).setCell (by show _ ≤ w.heap.size; omega) _).setCell (by show _ ≤ w.heap.size; omega) _⟩

set_option maxRecDepth 100000 in
set_option maxHeartbeats 4000000 in
theorem fi_f2b {n : Nat} {k : Int} (hn : n ≤ 20) (hk : cntI n ≤ k) (w : World) :
    Calls Try.prog 48 #[.int .i64 (n : Int), .int .i64 k] w fun ee w' => ee = .returned (.tuple #[fmv (ByteArray.mk #[]) 0 0, .bool false]) ∧ Below w.heap.size w w' := by
  obtain ⟨c1, c2⟩ := cnt_tab n hn
  obtain ⟨C, hC⟩ : ∃ C, C = cntI n := ⟨_, rfl⟩
  have HCF : Hid (∀ w, Calls Try.prog 46 #[.int .i64 (n : Int)] w fun ee w' => ee = .returned (.tuple #[.int .i64 C, .bool true]) ∧ w = w') := hid (by intro w; rw [hC]; exact cf_i_t hn w)
  rw [← hC] at c1 c2 hk
  have hk0 : ¬ (k < 0) := by omega
  clear hC
  go_enter Try.func48, Try.ntmps48
  go_upto_region 1 with (fail)
  obtain ⟨W, hW⟩ : ∃ W : World, W = w.alloc (.cells #[.string (ByteArray.mk #[]), .int .i64 0, .int .i64 0] 73) := ⟨_, rfl⟩
  have hBW : Below w.heap.size w W := by rw [hW]; exact (Below.refl _ _).alloc (Nat.le_refl _) _
  have XR : Hid (Bx W w.heap.size 73 #[.string (ByteArray.mk #[]), .int .i64 0, .int .i64 0]) := by rw [hW]; exact Bx.new rfl
  rw [← hW]
  clear hW
  have r0 := XR.out.c 0 rfl
  have r1 := XR.out.c 1 rfl
  have r2 := XR.out.c 2 rfl
  have rf := XR.out.f
  have rl := XR.out.lt
  go_wp2_with ((go_at_call 46; ((refine (HCF.out _).mono ?_); rintro ee w1 ⟨rfl, rfl⟩)))
  refine bodyPost_ret (v := .tuple #[fmv (ByteArray.mk #[]) 0 0, .bool false]) (by first | (simp only [results, Try.results48]; go_simp; done) | (simp [results, Try.results48, go_sem, *]; done)) rfl ⟨rfl, ((hBW.setCell (by show _ ≤ w.heap.size; omega) _).setCell (by show _ ≤ w.heap.size; omega) _).setCell (by show _ ≤ w.heap.size; omega) _⟩


end Go.Proofs.Ytofclfgaekjonaa
