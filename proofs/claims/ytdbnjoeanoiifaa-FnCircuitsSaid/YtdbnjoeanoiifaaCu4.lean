/- The cursor of the draws (chapter 1's contracts, as in wip/tpl/XCursor), for the draws of circuits. -/
import Derived.Deep.QuietTactic
import Derived.BigQuiet
import Derived.Lib.SmallJoins
import Derived.OwnWalk
import Derived.Deep.LoopGhost
import Derived.Test.YtdbnjoeanoiifaaHeldB
import Derived.Deep.RegionHeld3
import Derived.Deep.MidRow
import Derived.Deep.DeepCutAuto
import Derived.Deep.RegionWith
import Derived.Test.YtdbnjoeanoiifaaHeld
import Derived.Test.YtdbnjoeanoiifaaGa
namespace Go.Proofs.Ytdbnjoeanoiifaa
open Go.RowKit RM
set_option linter.unusedVariables false
set_option linter.unusedSimpArgs false
attribute [local irreducible] World.setCell

/-- w' is w with new blocks; of the old ones block g alone may have turned -/
structure Kp (g : Nat) (w w' : World) : Prop where
  os : w'.os = w.os
  tape : w'.tape = w.tape
  output : w'.output = w.output
  size : w.heap.size ≤ w'.heap.size
  block : ∀ k, k < w.heap.size → k ≠ g → w'.heap[k]? = w.heap[k]?
theorem Kp.refl (g : Nat) (w : World) : Kp g w w := ⟨rfl, rfl, rfl, Nat.le_refl _, fun _ _ _ => rfl⟩
theorem Kp.trans {g : Nat} {a b c : World} (h : Kp g a b) (k : Kp g b c) : Kp g a c :=
  ⟨k.os.trans h.os, k.tape.trans h.tape, k.output.trans h.output, Nat.le_trans h.size k.size, fun i hi hn => (k.block i (Nat.lt_of_lt_of_le hi h.size) hn).trans (h.block i hi hn)⟩
theorem Kp.ofBelow {g : Nat} {a b : World} (h : Below a.heap.size a b) : Kp g a b :=
  ⟨h.os, h.tape, h.output, h.size, fun i hi _ => h.block i hi⟩
theorem Kp.below {g B : Nat} {a b : World} (h : Kp g a b) (hB : B ≤ g) (hS : B ≤ a.heap.size) : Below B a b :=
  ⟨h.os, h.tape, h.output, h.size, fun i hi => h.block i (Nat.lt_of_lt_of_le hi hS) (by omega)⟩
theorem Kp.drew {g : Nat} {a b : World} (h : Kp g a b) : Kp g a b.drew := ⟨h.os, h.tape, h.output, h.size, h.block⟩
theorem set_os (b : World) (a : Addr) (v : Value) : (b.setCell a v).os = b.os ∧ (b.setCell a v).tape = b.tape ∧ (b.setCell a v).output = b.output := by unfold World.setCell; exact ⟨rfl, rfl, rfl⟩
theorem Kp.set {g o : Nat} {a b : World} {v : Value} (h : Kp g a b) : Kp g a (b.setCell ⟨g, o, none⟩ v) :=
  ⟨(set_os _ _ _).1.trans h.os, (set_os _ _ _).2.1.trans h.tape, (set_os _ _ _).2.2.trans h.output, by simpa using h.size, fun i hi hn => (Below.heap_setCell _ _ _ _ hn).trans (h.block i hi hn)⟩
theorem Kp.drewN {g n : Nat} {a b : World} (h : Kp g a b) : Kp g a (b.drewN n) := ⟨h.os, h.tape, h.output, h.size, h.block⟩
theorem Kp.alloc {g : Nat} {a b : World} (h : Kp g a b) (o : Obj) : Kp g a (b.alloc o) := h.trans (Kp.ofBelow ((Below.refl _ _).alloc (Nat.le_refl _) _))
theorem Kp.cell {g : Nat} {a b : World} (h : Kp g a b) {k o : Nat} (hk : k < a.heap.size) (hn : k ≠ g) : b.cell? ⟨k, o, none⟩ = a.cell? ⟨k, o, none⟩ := World.cell?_of_block (w := a) (h.block k hk hn)
theorem Kp.frozen {g : Nat} {a b : World} (h : Kp g a b) {k o : Nat} (hk : k < a.heap.size) (hn : k ≠ g) : b.frozen? ⟨k, o, none⟩ = a.frozen? ⟨k, o, none⟩ := World.frozen?_of_block (w := a) (h.block k hk hn)
/-- a cursor at block g over len bytes; it stands at no more than M -/
structure Cu (W : World) (g : Nat) (A : Option Addr) (len cap M : Nat) : Prop where
  sl : W.cell? ⟨g, 0, none⟩ = some (.slice A len cap)
  pos : ∃ n : Nat, W.cell? ⟨g, 1, none⟩ = some (.int .i64 n) ∧ n ≤ M
  seed : ∃ m : Int, W.cell? ⟨g, 2, none⟩ = some (.int .u64 m) ∧ 0 ≤ m ∧ m < 18446744073709551616
  f1 : W.frozen? ⟨g, 1, none⟩ = false
  f2 : W.frozen? ⟨g, 2, none⟩ = false
  bytes : ∀ i, i < len → ∃ (b off : Nat) (z : Int), A = some ⟨b, off, none⟩ ∧ b < g ∧ W.cell? ⟨b, off + i, none⟩ = some (.int .u8 z) ∧ 0 ≤ z ∧ z ≤ 255
theorem Cu.mono {W : World} {g : Nat} {A : Option Addr} {len cap M M' : Nat} (h : Cu W g A len cap M) (hM : M ≤ M') : Cu W g A len cap M' :=
  ⟨h.sl, by obtain ⟨n, h1, h2⟩ := h.pos; exact ⟨n, h1, Nat.le_trans h2 hM⟩, h.seed, h.f1, h.f2, h.bytes⟩
theorem Cu.lt {W : World} {g : Nat} {A : Option Addr} {len cap M : Nat} (h : Cu W g A len cap M) : g < W.heap.size := World.block_lt_of_cell? W _ h.sl
theorem Cu.below {W W' : World} {g : Nat} {A : Option Addr} {len cap M : Nat} (h : Cu W g A len cap M) (hb : Below W.heap.size W W') : Cu W' g A len cap M := by
  have hl := h.lt
  obtain ⟨n, hn1, hn2⟩ := h.pos
  obtain ⟨m, hm1, hm2⟩ := h.seed
  refine ⟨(hb.cell (p := ⟨g, 0, none⟩) hl).trans h.sl, ⟨n, (hb.cell (p := ⟨g, 1, none⟩) hl).trans hn1, hn2⟩, ⟨m, (hb.cell (p := ⟨g, 2, none⟩) hl).trans hm1, hm2⟩, (hb.frozen (p := ⟨g, 1, none⟩) hl).trans h.f1, (hb.frozen (p := ⟨g, 2, none⟩) hl).trans h.f2, fun i hi => ?_⟩
  obtain ⟨b, off, z, h1, h2, h3, h4⟩ := h.bytes i hi
  exact ⟨b, off, z, h1, h2, kc hb h3, h4⟩

theorem Cu.set {W : World} {g k o : Nat} {A : Option Addr} {len cap M : Nat} {v : Value} (h : Cu W g A len cap M) (hk : g < k) : Cu (W.setCell ⟨k, o, none⟩ v) g A len cap M := by
  have hne : k ≠ g := by omega
  obtain ⟨h0, ⟨n, h1, hn⟩, ⟨m, h2, hm⟩, h3, h4, h5⟩ := h
  refine ⟨by rw [World.cell?_setCell_far _ _ _ _ hne]; exact h0, ⟨n, by rw [World.cell?_setCell_far _ _ _ _ hne]; exact h1, hn⟩, ⟨m, by rw [World.cell?_setCell_far _ _ _ _ hne]; exact h2, hm⟩, by rw [World.frozen?_setCell]; exact h3, by rw [World.frozen?_setCell]; exact h4, fun i hi => ?_⟩
  obtain ⟨b, off, z, e1, e2, e3, e4⟩ := h5 i hi
  exact ⟨b, off, z, e1, e2, by rw [World.cell?_setCell_far _ _ _ _ (by show k ≠ b; omega)]; exact e3, e4⟩
theorem Cu.alloc {W : World} {g : Nat} {A : Option Addr} {len cap M : Nat} (h : Cu W g A len cap M) (x : Obj) : Cu (W.alloc x) g A len cap M := h.below ((Below.refl _ _).alloc (Nat.le_refl _) _)
theorem Cu.drew {W : World} {g : Nat} {A : Option Addr} {len cap M : Nat} (h : Cu W g A len cap M) : Cu W.drew g A len cap M := ⟨h.sl, h.pos, h.seed, h.f1, h.f2, h.bytes⟩
theorem Kp.setNew {g k o : Nat} {a b : World} {v : Value} (h : Kp g a b) (hk : a.heap.size ≤ k) : Kp g a (b.setCell ⟨k, o, none⟩ v) :=
  ⟨(set_os _ _ _).1.trans h.os, (set_os _ _ _).2.1.trans h.tape, (set_os _ _ _).2.2.trans h.output, by simpa using h.size, fun i hi hn => (Below.heap_setCell _ _ _ _ (by show i ≠ k; omega)).trans (h.block i hi hn)⟩
theorem Cu.step {w : World} {g : Nat} {A : Option Addr} {len cap M n k1 k2 : Nat} {x : Int} (h : Cu w g A len cap M) (hn : n ≤ M) (x0 : 0 ≤ x) (x1 : x < 18446744073709551616) : Cu ((((w.drewN k1).setCell ⟨g, 1, none⟩ (.int .i64 ((n : Int) + 1))).setCell ⟨g, 2, none⟩ (.int .u64 x)).drewN k2) g A len cap (M + 1) := by
  obtain ⟨h0, ⟨n0, h1, _⟩, ⟨m0, h2, _⟩, h3, h4, h5⟩ := h
  refine ⟨by go_simp, ⟨n + 1, by go_simp, by omega⟩, ⟨x, by go_simp, x0, x1⟩, by go_simp, by go_simp, fun i hi => ?_⟩
  obtain ⟨b, off, z, e1, e2, e3, e4⟩ := h5 i hi
  refine ⟨b, off, z, e1, e2, ?_, e4⟩
  rw [World.cell?_drewN, World.cell?_setCell_far _ _ _ _ (by show g ≠ b; omega), World.cell?_setCell_far _ _ _ _ (by show g ≠ b; omega), World.cell?_drewN, e3]
theorem Kp.step {w : World} {g : Nat} {u v : Value} {k1 k2 : Nat} : Kp g w ((((w.drewN k1).setCell ⟨g, 1, none⟩ u).setCell ⟨g, 2, none⟩ v).drewN k2) := (((Kp.refl g w).drewN.set).set).drewN
theorem u64_bd (y : Int) : 0 ≤ IntKind.u64.wrap y ∧ IntKind.u64.wrap y < 18446744073709551616 := by
  have : IntKind.u64.wrap y = y % 18446744073709551616 := by simp [IntKind.wrap, IntKind.bits, IntKind.signed]
  rw [this]; omega
theorem byte_of (y : Int) : 0 ≤ wrap64 (bits BinOp.and IntKind.u64 (IntKind.u64.wrap y / 1099511627776) 255) ∧ wrap64 (bits BinOp.and IntKind.u64 (IntKind.u64.wrap y / 1099511627776) 255) ≤ 255 := by
  obtain ⟨h0, h1⟩ := u64_bd y
  obtain ⟨a, ha⟩ : ∃ a : Nat, IntKind.u64.wrap y / 1099511627776 = (a : Int) := ⟨(IntKind.u64.wrap y / 1099511627776).toNat, by omega⟩
  have hb : bits BinOp.and IntKind.u64 (IntKind.u64.wrap y / 1099511627776) 255 = ((a &&& 255 : Nat) : Int) := by
    rw [ha]; exact bits_and_u64_nat a 255 (by omega) (by omega)
  have hle : a &&& 255 ≤ 255 := Nat.and_le_right
  rw [hb]
  unfold wrap64
  omega

set_option maxRecDepth 100000 in
set_option maxHeartbeats 4000000 in
theorem next_lt (g b off len cap n M : Nat) (m z : Int) (w : World) (hC : Cu w g (some ⟨b, off, none⟩) len cap M) (hM : n ≤ M) (h0 : w.cell? ⟨g, 0, none⟩ = some (.slice (some ⟨b, off, none⟩) len cap)) (h1 : w.cell? ⟨g, 1, none⟩ = some (.int .i64 n)) (h2 : w.cell? ⟨g, 2, none⟩ = some (.int .u64 m))
    (f1 : w.frozen? ⟨g, 1, none⟩ = false) (f2 : w.frozen? ⟨g, 2, none⟩ = false) (hz : w.cell? ⟨b, off + n, none⟩ = some (.int .u8 z)) (hn : (n : Int) < (len : Int)) (hl : (len : Int) ≤ 9223372036854775807) (z0 : 0 ≤ z) (z1 : z ≤ 255) (hne : b ≠ g) :
    Calls Try.prog 83 #[.pointer (some ⟨g, 0, none⟩)] w fun e w' => e = .returned (.int .i64 z) ∧ Cu w' g (some ⟨b, off, none⟩) len cap (M + 1) ∧ Kp g w w' := by
  have hn0 : (0 : Int) ≤ (n : Int) := Int.natCast_nonneg _
  have HC := hid hC
  have HM := hid hM
  clear hC hM
  go_enter Try.func83, Try.ntmps83
  go_wp2_with fail
  go_quiet (fail)
  go_wp2_with fail
  go_quiet (fail)
  go_wp2_with fail
  go_quiet (fail)
  go_wp2_with fail
  go_ret
  exact ⟨by simp, HC.out.step HM.out (u64_bd _).1 (u64_bd _).2, Kp.step⟩

set_option maxRecDepth 100000 in
set_option maxHeartbeats 4000000 in
theorem next_ge (g len cap n M : Nat) (A : Option Addr) (m : Int) (w : World) (hC : Cu w g A len cap M) (hM : n ≤ M) (h0 : w.cell? ⟨g, 0, none⟩ = some (.slice A len cap)) (h1 : w.cell? ⟨g, 1, none⟩ = some (.int .i64 n)) (h2 : w.cell? ⟨g, 2, none⟩ = some (.int .u64 m))
    (f1 : w.frozen? ⟨g, 1, none⟩ = false) (f2 : w.frozen? ⟨g, 2, none⟩ = false) (hn : ¬ ((n : Int) < (len : Int))) (hl : (n : Int) ≤ 140737488355328) :
    Calls Try.prog 83 #[.pointer (some ⟨g, 0, none⟩)] w fun e w' => ∃ v : Int, e = .returned (.int .i64 v) ∧ 0 ≤ v ∧ v ≤ 255 ∧ Cu w' g A len cap (M + 1) ∧ Kp g w w' := by
  have hn0 : (0 : Int) ≤ (n : Int) := Int.natCast_nonneg _
  have HC := hid hC
  have HM := hid hM
  clear hC hM
  have hn2 : ¬ ((n : Int) + 1 ≤ (len : Int)) := by omega
  go_enter Try.func83, Try.ntmps83
  go_wp2_with fail
  go_quiet (fail)
  go_wp2_with fail
  go_quiet (fail)
  go_wp2_with fail
  go_ret
  refine ⟨_, rfl, ?_, ?_, HC.out.step HM.out (u64_bd _).1 (u64_bd _).2, Kp.step⟩
  · exact (byte_of _).1
  · exact (byte_of _).2
/-- the next byte -/
theorem next_any {g len cap M : Nat} {A : Option Addr} {w : World} (h : Cu w g A len cap M) (hl : (len : Int) ≤ 9223372036854775807) (hM : M ≤ 100000000000) :
    Calls Try.prog 83 #[.pointer (some ⟨g, 0, none⟩)] w fun e w' => ∃ v : Int, e = .returned (.int .i64 v) ∧ 0 ≤ v ∧ v ≤ 255 ∧ Cu w' g A len cap (M + 1) ∧ Kp g w w' := by
  obtain ⟨n, h1, hn⟩ := h.pos
  obtain ⟨m, h2, _, _⟩ := h.seed
  by_cases hlt : n < len
  · obtain ⟨b, off, z, rfl, e2, e3, e4, e5⟩ := h.bytes n hlt
    exact (next_lt g b off len cap n M m z w h hn h.sl h1 h2 h.f1 h.f2 e3 (by omega) hl e4 e5 (by omega)).mono fun e w' ⟨q, r⟩ => ⟨z, q, e4, e5, r⟩
  · exact next_ge g len cap n M A m w h hn h.sl h1 h2 h.f1 h.f2 (by omega) (by omega)
end Go.Proofs.Ytdbnjoeanoiifaa
namespace Go.Proofs.Ytdbnjoeanoiifaa
open Go.RowKit RM
set_option linter.unusedVariables false
set_option linter.unusedSimpArgs false
attribute [local irreducible] World.setCell

set_option maxRecDepth 100000 in
set_option maxHeartbeats 4000000 in
theorem pick_any (n : Int) (h1 : 2 ≤ n) (h2 : n ≤ 100000) {g len cap M : Nat} {A : Option Addr} {w : World} (h : Cu w g A len cap M) (hl : (len : Int) ≤ 9223372036854775807) (hM : M ≤ 10000000000) :
    Calls Try.prog 55 #[.pointer (some ⟨g, 0, none⟩), .int .i64 n] w fun e w' => ∃ v : Int, e = .returned (.int .i64 v) ∧ 0 ≤ v ∧ v < n ∧ Cu w' g A len cap (M + 2) ∧ Kp g w w' := by
  have HC := hid h
  clear h
  have HL := hid hl
  clear hl
  have hn1 : ¬ (n ≤ 1) := by omega
  have hn2 : ¬ (n = 0) := by omega
  by_cases hn : 200 < n
  · go_enter Try.func55, Try.ntmps55
    go_wp2_with (first | (go_at_call 83; ((with_reducible refine (next_any HC.out HL.out (by omega)).mono ?_); rintro ee w1 ⟨v1, rfl, a1, b1, hC1, hK1⟩; have HC1 := hid hC1; clear hC1)) | (go_at_call 83; ((with_reducible refine (next_any HC1.out HL.out (by omega)).mono ?_); rintro ee w2 ⟨v2, rfl, a2, b2, hC2, hK2⟩; have HC2 := hid hC2; clear hC2)))
    go_ret
    have := Int.emod_lt_of_pos (v1 * 256 + v2) (show 0 < n by omega)
    have := Int.emod_nonneg (v1 * 256 + v2) (show n ≠ 0 by omega)
    refine ⟨_, rfl, ?_, ?_, HC2.out.mono (by omega), hK1.trans hK2⟩
    · omega
    · omega
  · go_enter Try.func55, Try.ntmps55
    go_wp2_with (first | (go_at_call 83; ((with_reducible refine (next_any HC.out HL.out (by omega)).mono ?_); rintro ee w1 ⟨v1, rfl, a1, b1, hC1, hK1⟩; have HC1 := hid hC1; clear hC1)))
    go_ret
    have := Int.emod_lt_of_pos v1 (show 0 < n by omega)
    have := Int.emod_nonneg v1 (show n ≠ 0 by omega)
    refine ⟨_, rfl, ?_, ?_, HC1.out.mono (by omega), hK1⟩
    · omega
    · omega

set_option maxRecDepth 100000 in
set_option maxHeartbeats 4000000 in
theorem one_any (n : Int) (h1 : 2 ≤ n) (h2 : n ≤ 100000) {g len cap M : Nat} {A : Option Addr} {w : World} (h : Cu w g A len cap M) (hl : (len : Int) ≤ 9223372036854775807) (hM : M ≤ 5000000000) :
    Calls Try.prog 32 #[.pointer (some ⟨g, 0, none⟩), .int .i64 n] w fun e w' => ∃ v : Bool, e = .returned (.bool v) ∧ Cu w' g A len cap (M + 2) ∧ Kp g w w' := by
  have HC := hid h
  clear h
  have HL := hid hl
  clear hl
  go_enter Try.func32, Try.ntmps32
  go_wp2_with (first | (go_at_call 55; ((with_reducible refine (pick_any _ h1 h2 HC.out HL.out (by omega)).mono ?_); rintro ee w1 ⟨v1, rfl, a1, b1, hC1, hK1⟩; have HC1 := hid hC1; clear hC1)))
  go_ret
  exact ⟨_, rfl, HC1.out, hK1⟩

set_option maxRecDepth 100000 in
set_option maxHeartbeats 4000000 in
theorem among_any (b o n cp : Nat) (h1 : 2 ≤ n) (h2 : n ≤ 1000) {g len cap M : Nat} {A : Option Addr} {w : World} (h : Cu w g A len cap M) (hl : (len : Int) ≤ 9223372036854775807) (hM : M ≤ 5000000000) (hb : b ≠ g) (hz : ∀ i, i < n → ∃ z : Int, w.cell? ⟨b, o + i, none⟩ = some (.int .i64 z)) :
    Calls Try.prog 30 #[.pointer (some ⟨g, 0, none⟩), .slice (some ⟨b, o, none⟩) n cp] w fun e w' => ∃ v : Int, e = .returned (.int .i64 v) ∧ (∃ i, i < n ∧ w.cell? ⟨b, o + i, none⟩ = some (.int .i64 v)) ∧ Cu w' g A len cap (M + 2) ∧ Kp g w w' := by
  have HC := hid h
  clear h
  have HL := hid hl
  clear hl
  have HZ := hid hz
  clear hz
  have hn3 : (n : Int) ≤ 1000 := by omega
  have HN := hid (show (2 : Int) ≤ (n : Int) by omega)
  have HN2 := hid (show (n : Int) ≤ 100000 by omega)
  go_enter Try.func30, Try.ntmps30
  go_wp2_with (first | (go_at_call 55; ((with_reducible refine (pick_any _ HN.out HN2.out HC.out HL.out (by omega)).mono ?_); rintro ee w1 ⟨v1, rfl, a1, b1, hC1, hK1⟩; have HC1 := hid hC1; clear hC1; obtain ⟨i, rfl⟩ := Int.eq_ofNat_of_zero_le a1; obtain ⟨z, hz⟩ := HZ.out i (by omega); have hzz : w1.cell? ⟨b, o + i, none⟩ = some (.int .i64 z) := (hK1.cell (World.block_lt_of_cell? w _ hz) hb).trans hz)))
  go_ret
  exact ⟨_, rfl, ⟨i, by omega, hz⟩, HC1.out, hK1⟩
end Go.Proofs.Ytdbnjoeanoiifaa
namespace Go.Proofs.Ytdbnjoeanoiifaa
open Go.RowKit RM
set_option linter.unusedVariables false
set_option linter.unusedSimpArgs false
attribute [local irreducible] World.setCell
structure By8 (W : World) (A : Option Addr) (len : Nat) : Prop where
  le : (len : Int) ≤ 9223372036854775807
  bytes : ∀ i, i < len → ∃ (b off : Nat) (z : Int), A = some ⟨b, off, none⟩ ∧ W.cell? ⟨b, off + i, none⟩ = some (.int .u8 z) ∧ 0 ≤ z ∧ z ≤ 255
theorem By8.below {W W' : World} {A : Option Addr} {len : Nat} (h : By8 W A len) (hb : Below W.heap.size W W') : By8 W' A len :=
  ⟨h.le, fun i hi => by obtain ⟨b, off, z, h1, h2, h3⟩ := h.bytes i hi; exact ⟨b, off, z, h1, kc hb h2, h3⟩⟩
theorem By8.alloc {W : World} {A : Option Addr} {len : Nat} (h : By8 W A len) (x : Obj) : By8 (W.alloc x) A len := h.below ((Below.refl _ _).alloc (Nat.le_refl _) _)
theorem Cu.start {W : World} {A : Option Addr} {len : Nat} (cap : Nat) (t : TypeId) (h : By8 W A len) : Cu (W.alloc (.cells #[.slice A len cap, .int .i64 0, .int .u64 0] t)) W.heap.size A len cap 0 := by
  refine ⟨by go_simp, ⟨0, by go_simp, Nat.le_refl _⟩, ⟨0, by go_simp, by decide, by decide⟩, by go_simp, by go_simp, fun i hi => ?_⟩
  obtain ⟨b, off, z, h1, h2, h3⟩ := h.bytes i hi
  exact ⟨b, off, z, h1, World.block_lt_of_cell? W _ h2, kal h2, h3⟩
theorem Cu.startg {W : World} {A : Option Addr} {len : Nat} {g : Nat} (cap : Nat) (t : TypeId) (h : By8 W A len) (hg : W.heap.size = g) : Cu (W.alloc (.cells #[.slice A len cap, .int .i64 0, .int .u64 0] t)) g A len cap 0 := by
  subst hg; exact Cu.start cap t h
theorem Kp.belowA {g : Nat} {w a b : World} (h : Kp g a b) (hw : Below w.heap.size w a) (hg : w.heap.size ≤ g) : Below w.heap.size w b :=
  hw.trans (h.below hg hw.size)
end Go.Proofs.Ytdbnjoeanoiifaa
