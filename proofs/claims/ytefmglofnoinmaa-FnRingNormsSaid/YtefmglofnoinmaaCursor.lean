/- The draws of the laws: what stays of a world in which one cursor moves; the next byte. Contracts of the draws of numbers. Contracts of the draws of numbers of the ring and of dyadic numbers. Contracts of the draws of numbers of the ring and of dyadic numbers (second part). Contracts of the draws of any dyadic number. Contracts of the laws' draws. -/
import Derived.Test.YtefmglofnoinmaaRingS
import Derived.Deep.QuietTactic
import Derived.BigQuiet
import Derived.Lib.SmallJoins
import Derived.OwnWalk
import Derived.Deep.LoopGhost
import Derived.Test.YtefmglofnoinmaaHeldB
import Derived.Deep.RegionHeld3
import Derived.Deep.MidRow
import Derived.Deep.DeepCutAuto
import Derived.Deep.RegionWith
import Derived.Test.YtefmglofnoinmaaDyB
import Derived.Test.YtefmglofnoinmaaPhase
namespace Go.Proofs.Ytefmglofnoinmaa
open Go.RowKit RM
set_option linter.unusedVariables false
set_option linter.unusedSimpArgs false
attribute [local irreducible] World.setCell

/-- w' is w with new blocks; of the old ones block g alone may have turned -/
structure Kp (g : Nat) (w w' : World) : Prop where
  os : w'.os = w.os
  tape : w'.tape = w.tape
  output : w'.output = w.output
  size : w.heap.size ≤ w'.heap.size
  block : ∀ k, k < w.heap.size → k ≠ g → w'.heap[k]? = w.heap[k]?
theorem Kp.refl (g : Nat) (w : World) : Kp g w w := ⟨rfl, rfl, rfl, Nat.le_refl _, fun _ _ _ => rfl⟩
theorem Kp.trans {g : Nat} {a b c : World} (h : Kp g a b) (k : Kp g b c) : Kp g a c :=
  ⟨k.os.trans h.os, k.tape.trans h.tape, k.output.trans h.output, Nat.le_trans h.size k.size, fun i hi hn => (k.block i (Nat.lt_of_lt_of_le hi h.size) hn).trans (h.block i hi hn)⟩
theorem Kp.ofBelow {g : Nat} {a b : World} (h : Below a.heap.size a b) : Kp g a b :=
  ⟨h.os, h.tape, h.output, h.size, fun i hi _ => h.block i hi⟩
theorem Kp.below {g B : Nat} {a b : World} (h : Kp g a b) (hB : B ≤ g) (hS : B ≤ a.heap.size) : Below B a b :=
  ⟨h.os, h.tape, h.output, h.size, fun i hi => h.block i (Nat.lt_of_lt_of_le hi hS) (by omega)⟩
theorem Kp.drew {g : Nat} {a b : World} (h : Kp g a b) : Kp g a b.drew := ⟨h.os, h.tape, h.output, h.size, h.block⟩
theorem set_os (b : World) (a : Addr) (v : Value) : (b.setCell a v).os = b.os ∧ (b.setCell a v).tape = b.tape ∧ (b.setCell a v).output = b.output := by unfold World.setCell; exact ⟨rfl, rfl, rfl⟩
theorem Kp.set {g o : Nat} {a b : World} {v : Value} (h : Kp g a b) : Kp g a (b.setCell ⟨g, o, none⟩ v) :=
  ⟨(set_os _ _ _).1.trans h.os, (set_os _ _ _).2.1.trans h.tape, (set_os _ _ _).2.2.trans h.output, by simpa using h.size, fun i hi hn => (Below.heap_setCell _ _ _ _ hn).trans (h.block i hi hn)⟩
theorem Kp.drewN {g n : Nat} {a b : World} (h : Kp g a b) : Kp g a (b.drewN n) := ⟨h.os, h.tape, h.output, h.size, h.block⟩
theorem Kp.alloc {g : Nat} {a b : World} (h : Kp g a b) (o : Obj) : Kp g a (b.alloc o) := h.trans (Kp.ofBelow ((Below.refl _ _).alloc (Nat.le_refl _) _))
theorem Kp.cell {g : Nat} {a b : World} (h : Kp g a b) {k o : Nat} (hk : k < a.heap.size) (hn : k ≠ g) : b.cell? ⟨k, o, none⟩ = a.cell? ⟨k, o, none⟩ := World.cell?_of_block (w := a) (h.block k hk hn)
theorem Kp.frozen {g : Nat} {a b : World} (h : Kp g a b) {k o : Nat} (hk : k < a.heap.size) (hn : k ≠ g) : b.frozen? ⟨k, o, none⟩ = a.frozen? ⟨k, o, none⟩ := World.frozen?_of_block (w := a) (h.block k hk hn)
/-- a cursor at block g over len bytes; it stands at no more than M -/
structure Cu (W : World) (g : Nat) (A : Option Addr) (len cap M : Nat) : Prop where
  sl : W.cell? ⟨g, 0, none⟩ = some (.slice A len cap)
  pos : ∃ n : Nat, W.cell? ⟨g, 1, none⟩ = some (.int .i64 n) ∧ n ≤ M
  seed : ∃ m : Int, W.cell? ⟨g, 2, none⟩ = some (.int .u64 m) ∧ 0 ≤ m ∧ m < 18446744073709551616
  f1 : W.frozen? ⟨g, 1, none⟩ = false
  f2 : W.frozen? ⟨g, 2, none⟩ = false
  bytes : ∀ i, i < len → ∃ (b off : Nat) (z : Int), A = some ⟨b, off, none⟩ ∧ b < g ∧ W.cell? ⟨b, off + i, none⟩ = some (.int .u8 z) ∧ 0 ≤ z ∧ z ≤ 255
theorem Cu.mono {W : World} {g : Nat} {A : Option Addr} {len cap M M' : Nat} (h : Cu W g A len cap M) (hM : M ≤ M') : Cu W g A len cap M' :=
  ⟨h.sl, by obtain ⟨n, h1, h2⟩ := h.pos; exact ⟨n, h1, Nat.le_trans h2 hM⟩, h.seed, h.f1, h.f2, h.bytes⟩
theorem Cu.lt {W : World} {g : Nat} {A : Option Addr} {len cap M : Nat} (h : Cu W g A len cap M) : g < W.heap.size := World.block_lt_of_cell? W _ h.sl
theorem Cu.below {W W' : World} {g : Nat} {A : Option Addr} {len cap M : Nat} (h : Cu W g A len cap M) (hb : Below W.heap.size W W') : Cu W' g A len cap M := by
  have hl := h.lt
  obtain ⟨n, hn1, hn2⟩ := h.pos
  obtain ⟨m, hm1, hm2⟩ := h.seed
  refine ⟨(hb.cell (p := ⟨g, 0, none⟩) hl).trans h.sl, ⟨n, (hb.cell (p := ⟨g, 1, none⟩) hl).trans hn1, hn2⟩, ⟨m, (hb.cell (p := ⟨g, 2, none⟩) hl).trans hm1, hm2⟩, (hb.frozen (p := ⟨g, 1, none⟩) hl).trans h.f1, (hb.frozen (p := ⟨g, 2, none⟩) hl).trans h.f2, fun i hi => ?_⟩
  obtain ⟨b, off, z, h1, h2, h3, h4⟩ := h.bytes i hi
  exact ⟨b, off, z, h1, h2, kc hb h3, h4⟩

theorem Cu.set {W : World} {g k o : Nat} {A : Option Addr} {len cap M : Nat} {v : Value} (h : Cu W g A len cap M) (hk : g < k) : Cu (W.setCell ⟨k, o, none⟩ v) g A len cap M := by
  have hne : k ≠ g := by omega
  obtain ⟨h0, ⟨n, h1, hn⟩, ⟨m, h2, hm⟩, h3, h4, h5⟩ := h
  refine ⟨by rw [World.cell?_setCell_far _ _ _ _ hne]; exact h0, ⟨n, by rw [World.cell?_setCell_far _ _ _ _ hne]; exact h1, hn⟩, ⟨m, by rw [World.cell?_setCell_far _ _ _ _ hne]; exact h2, hm⟩, by rw [World.frozen?_setCell]; exact h3, by rw [World.frozen?_setCell]; exact h4, fun i hi => ?_⟩
  obtain ⟨b, off, z, e1, e2, e3, e4⟩ := h5 i hi
  exact ⟨b, off, z, e1, e2, by rw [World.cell?_setCell_far _ _ _ _ (by show k ≠ b; omega)]; exact e3, e4⟩
theorem Cu.alloc {W : World} {g : Nat} {A : Option Addr} {len cap M : Nat} (h : Cu W g A len cap M) (x : Obj) : Cu (W.alloc x) g A len cap M := h.below ((Below.refl _ _).alloc (Nat.le_refl _) _)
theorem Cu.drew {W : World} {g : Nat} {A : Option Addr} {len cap M : Nat} (h : Cu W g A len cap M) : Cu W.drew g A len cap M := ⟨h.sl, h.pos, h.seed, h.f1, h.f2, h.bytes⟩
theorem Kp.setNew {g k o : Nat} {a b : World} {v : Value} (h : Kp g a b) (hk : a.heap.size ≤ k) : Kp g a (b.setCell ⟨k, o, none⟩ v) :=
  ⟨(set_os _ _ _).1.trans h.os, (set_os _ _ _).2.1.trans h.tape, (set_os _ _ _).2.2.trans h.output, by simpa using h.size, fun i hi hn => (Below.heap_setCell _ _ _ _ (by show i ≠ k; omega)).trans (h.block i hi hn)⟩
theorem C4.kp {W W' : World} {k g : Nat} {a b c d : Int} (h : C4 W k a b c d) (hK : Kp g W W') (hne : k ≠ g) : C4 W' k a b c d := by
  have hl := h.lt
  exact ⟨(hK.cell hl hne).trans h.c0, (hK.cell hl hne).trans h.c1, (hK.cell hl hne).trans h.c2, (hK.cell hl hne).trans h.c3, (hK.frozen hl hne).trans h.f0, (hK.frozen hl hne).trans h.f1, (hK.frozen hl hne).trans h.f2, (hK.frozen hl hne).trans h.f3⟩
theorem C5.kp {W W' : World} {k g : Nat} {a b c d e : Int} (h : C5 W k a b c d e) (hK : Kp g W W') (hne : k ≠ g) : C5 W' k a b c d e := by
  have hl := h.lt
  exact ⟨(hK.cell hl hne).trans h.c0, (hK.cell hl hne).trans h.c1, (hK.cell hl hne).trans h.c2, (hK.cell hl hne).trans h.c3, (hK.cell hl hne).trans h.c4, (hK.frozen hl hne).trans h.f0, (hK.frozen hl hne).trans h.f1, (hK.frozen hl hne).trans h.f2, (hK.frozen hl hne).trans h.f3, (hK.frozen hl hne).trans h.f4⟩
theorem C4.kpd {W W1 W' : World} {k g : Nat} {a b c d : Int} (h : C4 W1 k a b c d) (hK : Kp g W W') (hne : k ≠ g) (he : W.heap = W1.heap := by rfl) : C4 W' k a b c d := by
  have hK' : Kp g { W1 with os := W.os, tape := W.tape, output := W.output } W' := ⟨hK.os, hK.tape, hK.output, by rw [← he]; exact hK.size, fun i hi hn => by rw [← he] at *; exact hK.block i hi hn⟩
  have h' : C4 { W1 with os := W.os, tape := W.tape, output := W.output } k a b c d := ⟨h.c0, h.c1, h.c2, h.c3, h.f0, h.f1, h.f2, h.f3⟩
  exact h'.kp hK' hne
theorem C5.kpd {W W1 W' : World} {k g : Nat} {a b c d e : Int} (h : C5 W1 k a b c d e) (hK : Kp g W W') (hne : k ≠ g) (he : W.heap = W1.heap := by rfl) : C5 W' k a b c d e := by
  have hK' : Kp g { W1 with os := W.os, tape := W.tape, output := W.output } W' := ⟨hK.os, hK.tape, hK.output, by rw [← he]; exact hK.size, fun i hi hn => by rw [← he] at *; exact hK.block i hi hn⟩
  have h' : C5 { W1 with os := W.os, tape := W.tape, output := W.output } k a b c d e := ⟨h.c0, h.c1, h.c2, h.c3, h.c4, h.f0, h.f1, h.f2, h.f3, h.f4⟩
  exact h'.kp hK' hne
theorem C5.monod {W W1 W' : World} {k : Nat} {a b c d e : Int} (h : C5 W1 k a b c d e) (hb : Below W.heap.size W W') (he : W.heap = W1.heap := by rfl) : C5 W' k a b c d e := by
  have hb' : Below ({ W1 with os := W.os, tape := W.tape, output := W.output } : World).heap.size { W1 with os := W.os, tape := W.tape, output := W.output } W' := ⟨hb.os, hb.tape, hb.output, by rw [← he]; exact hb.size, fun i hi => by rw [← he] at *; exact hb.block i hi⟩
  have h' : C5 { W1 with os := W.os, tape := W.tape, output := W.output } k a b c d e := ⟨h.c0, h.c1, h.c2, h.c3, h.c4, h.f0, h.f1, h.f2, h.f3, h.f4⟩
  exact h'.mono hb'
theorem C4.new (W : World) (t : TypeId) : C4 (W.alloc (.cells #[.int .i64 0, .int .i64 0, .int .i64 0, .int .i64 0] t)) W.heap.size 0 0 0 0 := ⟨by go_simp, by go_simp, by go_simp, by go_simp, by go_simp, by go_simp, by go_simp, by go_simp⟩
theorem C5.mk0 (W : World) (t : TypeId) : C5 (W.alloc (.cells #[.int .i64 0, .int .i64 0, .int .i64 0, .int .i64 0, .int .i64 0] t)) W.heap.size 0 0 0 0 0 := ⟨by go_simp, by go_simp, by go_simp, by go_simp, by go_simp, by go_simp, by go_simp, by go_simp, by go_simp, by go_simp⟩
theorem Cu.step {w : World} {g : Nat} {A : Option Addr} {len cap M n k1 k2 : Nat} {x : Int} (h : Cu w g A len cap M) (hn : n ≤ M) (x0 : 0 ≤ x) (x1 : x < 18446744073709551616) : Cu ((((w.drewN k1).setCell ⟨g, 1, none⟩ (.int .i64 ((n : Int) + 1))).setCell ⟨g, 2, none⟩ (.int .u64 x)).drewN k2) g A len cap (M + 1) := by
  obtain ⟨h0, ⟨n0, h1, _⟩, ⟨m0, h2, _⟩, h3, h4, h5⟩ := h
  refine ⟨by go_simp, ⟨n + 1, by go_simp, by omega⟩, ⟨x, by go_simp, x0, x1⟩, by go_simp, by go_simp, fun i hi => ?_⟩
  obtain ⟨b, off, z, e1, e2, e3, e4⟩ := h5 i hi
  refine ⟨b, off, z, e1, e2, ?_, e4⟩
  rw [World.cell?_drewN, World.cell?_setCell_far _ _ _ _ (by show g ≠ b; omega), World.cell?_setCell_far _ _ _ _ (by show g ≠ b; omega), World.cell?_drewN, e3]
theorem Kp.step {w : World} {g : Nat} {u v : Value} {k1 k2 : Nat} : Kp g w ((((w.drewN k1).setCell ⟨g, 1, none⟩ u).setCell ⟨g, 2, none⟩ v).drewN k2) := (((Kp.refl g w).drewN.set).set).drewN
theorem u64_bd (y : Int) : 0 ≤ IntKind.u64.wrap y ∧ IntKind.u64.wrap y < 18446744073709551616 := by
  have : IntKind.u64.wrap y = y % 18446744073709551616 := by simp [IntKind.wrap, IntKind.bits, IntKind.signed]
  rw [this]; omega
theorem byte_of (y : Int) : 0 ≤ wrap64 (bits BinOp.and IntKind.u64 (IntKind.u64.wrap y / 1099511627776) 255) ∧ wrap64 (bits BinOp.and IntKind.u64 (IntKind.u64.wrap y / 1099511627776) 255) ≤ 255 := by
  obtain ⟨h0, h1⟩ := u64_bd y
  obtain ⟨a, ha⟩ : ∃ a : Nat, IntKind.u64.wrap y / 1099511627776 = (a : Int) := ⟨(IntKind.u64.wrap y / 1099511627776).toNat, by omega⟩
  have hb : bits BinOp.and IntKind.u64 (IntKind.u64.wrap y / 1099511627776) 255 = ((a &&& 255 : Nat) : Int) := by
    rw [ha]; exact bits_and_u64_nat a 255 (by omega) (by omega)
  have hle : a &&& 255 ≤ 255 := Nat.and_le_right
  rw [hb]
  unfold wrap64
  omega

set_option maxRecDepth 100000 in
set_option maxHeartbeats 4000000 in
theorem next_lt (g b off len cap n M : Nat) (m z : Int) (w : World) (hC : Cu w g (some ⟨b, off, none⟩) len cap M) (hM : n ≤ M) (h0 : w.cell? ⟨g, 0, none⟩ = some (.slice (some ⟨b, off, none⟩) len cap)) (h1 : w.cell? ⟨g, 1, none⟩ = some (.int .i64 n)) (h2 : w.cell? ⟨g, 2, none⟩ = some (.int .u64 m))
    (f1 : w.frozen? ⟨g, 1, none⟩ = false) (f2 : w.frozen? ⟨g, 2, none⟩ = false) (hz : w.cell? ⟨b, off + n, none⟩ = some (.int .u8 z)) (hn : (n : Int) < (len : Int)) (hl : (len : Int) ≤ 9223372036854775807) (z0 : 0 ≤ z) (z1 : z ≤ 255) (hne : b ≠ g) :
    Calls Try.prog 100 #[.pointer (some ⟨g, 0, none⟩)] w fun e w' => e = .returned (.int .i64 z) ∧ Cu w' g (some ⟨b, off, none⟩) len cap (M + 1) ∧ Kp g w w' := by
  have hn0 : (0 : Int) ≤ (n : Int) := Int.natCast_nonneg _
  have HC := hid hC
  have HM := hid hM
  clear hC hM
  go_enter Try.func100, Try.ntmps100
  go_wp2_with fail
  go_quiet (fail)
  go_wp2_with fail
  go_quiet (fail)
  go_wp2_with fail
  go_quiet (fail)
  go_wp2_with fail
  go_ret
  exact ⟨by simp, HC.out.step HM.out (u64_bd _).1 (u64_bd _).2, Kp.step⟩

set_option maxRecDepth 100000 in
set_option maxHeartbeats 4000000 in
theorem next_ge (g len cap n M : Nat) (A : Option Addr) (m : Int) (w : World) (hC : Cu w g A len cap M) (hM : n ≤ M) (h0 : w.cell? ⟨g, 0, none⟩ = some (.slice A len cap)) (h1 : w.cell? ⟨g, 1, none⟩ = some (.int .i64 n)) (h2 : w.cell? ⟨g, 2, none⟩ = some (.int .u64 m))
    (f1 : w.frozen? ⟨g, 1, none⟩ = false) (f2 : w.frozen? ⟨g, 2, none⟩ = false) (hn : ¬ ((n : Int) < (len : Int))) (hl : (n : Int) ≤ 140737488355328) :
    Calls Try.prog 100 #[.pointer (some ⟨g, 0, none⟩)] w fun e w' => ∃ v : Int, e = .returned (.int .i64 v) ∧ 0 ≤ v ∧ v ≤ 255 ∧ Cu w' g A len cap (M + 1) ∧ Kp g w w' := by
  have hn0 : (0 : Int) ≤ (n : Int) := Int.natCast_nonneg _
  have HC := hid hC
  have HM := hid hM
  clear hC hM
  have hn2 : ¬ ((n : Int) + 1 ≤ (len : Int)) := by omega
  go_enter Try.func100, Try.ntmps100
  go_wp2_with fail
  go_quiet (fail)
  go_wp2_with fail
  go_quiet (fail)
  go_wp2_with fail
  go_ret
  refine ⟨_, rfl, ?_, ?_, HC.out.step HM.out (u64_bd _).1 (u64_bd _).2, Kp.step⟩
  · exact (byte_of _).1
  · exact (byte_of _).2
/-- the next byte -/
theorem next_any {g len cap M : Nat} {A : Option Addr} {w : World} (h : Cu w g A len cap M) (hl : (len : Int) ≤ 9223372036854775807) (hM : M ≤ 100000000000) :
    Calls Try.prog 100 #[.pointer (some ⟨g, 0, none⟩)] w fun e w' => ∃ v : Int, e = .returned (.int .i64 v) ∧ 0 ≤ v ∧ v ≤ 255 ∧ Cu w' g A len cap (M + 1) ∧ Kp g w w' := by
  obtain ⟨n, h1, hn⟩ := h.pos
  obtain ⟨m, h2, _, _⟩ := h.seed
  by_cases hlt : n < len
  · obtain ⟨b, off, z, rfl, e2, e3, e4, e5⟩ := h.bytes n hlt
    exact (next_lt g b off len cap n M m z w h hn h.sl h1 h2 h.f1 h.f2 e3 (by omega) hl e4 e5 (by omega)).mono fun e w' ⟨q, r⟩ => ⟨z, q, e4, e5, r⟩
  · exact next_ge g len cap n M A m w h hn h.sl h1 h2 h.f1 h.f2 (by omega) (by omega)
end Go.Proofs.Ytefmglofnoinmaa
namespace Go.Proofs.Ytefmglofnoinmaa
open Go.RowKit RM
set_option linter.unusedVariables false
set_option linter.unusedSimpArgs false
attribute [local irreducible] World.setCell

set_option maxRecDepth 100000 in
set_option maxHeartbeats 4000000 in
theorem pick_any (n : Int) (h1 : 2 ≤ n) (h2 : n ≤ 100000) {g len cap M : Nat} {A : Option Addr} {w : World} (h : Cu w g A len cap M) (hl : (len : Int) ≤ 9223372036854775807) (hM : M ≤ 10000000000) :
    Calls Try.prog 77 #[.pointer (some ⟨g, 0, none⟩), .int .i64 n] w fun e w' => ∃ v : Int, e = .returned (.int .i64 v) ∧ 0 ≤ v ∧ v < n ∧ Cu w' g A len cap (M + 2) ∧ Kp g w w' := by
  have HC := hid h
  clear h
  have HL := hid hl
  clear hl
  have hn1 : ¬ (n ≤ 1) := by omega
  have hn2 : ¬ (n = 0) := by omega
  by_cases hn : 200 < n
  · go_enter Try.func77, Try.ntmps77
    go_wp2_with (first | (go_at_call 100; ((with_reducible refine (next_any HC.out HL.out (by omega)).mono ?_); rintro ee w1 ⟨v1, rfl, a1, b1, hC1, hK1⟩; have HC1 := hid hC1; clear hC1)) | (go_at_call 100; ((with_reducible refine (next_any HC1.out HL.out (by omega)).mono ?_); rintro ee w2 ⟨v2, rfl, a2, b2, hC2, hK2⟩; have HC2 := hid hC2; clear hC2)))
    go_ret
    have := Int.emod_lt_of_pos (v1 * 256 + v2) (show 0 < n by omega)
    have := Int.emod_nonneg (v1 * 256 + v2) (show n ≠ 0 by omega)
    refine ⟨_, rfl, ?_, ?_, HC2.out.mono (by omega), hK1.trans hK2⟩
    · omega
    · omega
  · go_enter Try.func77, Try.ntmps77
    go_wp2_with (first | (go_at_call 100; ((with_reducible refine (next_any HC.out HL.out (by omega)).mono ?_); rintro ee w1 ⟨v1, rfl, a1, b1, hC1, hK1⟩; have HC1 := hid hC1; clear hC1)))
    go_ret
    have := Int.emod_lt_of_pos v1 (show 0 < n by omega)
    have := Int.emod_nonneg v1 (show n ≠ 0 by omega)
    refine ⟨_, rfl, ?_, ?_, HC1.out.mono (by omega), hK1⟩
    · omega
    · omega

set_option maxRecDepth 100000 in
set_option maxHeartbeats 4000000 in
theorem one_any (n : Int) (h1 : 2 ≤ n) (h2 : n ≤ 100000) {g len cap M : Nat} {A : Option Addr} {w : World} (h : Cu w g A len cap M) (hl : (len : Int) ≤ 9223372036854775807) (hM : M ≤ 5000000000) :
    Calls Try.prog 72 #[.pointer (some ⟨g, 0, none⟩), .int .i64 n] w fun e w' => ∃ v : Bool, e = .returned (.bool v) ∧ Cu w' g A len cap (M + 2) ∧ Kp g w w' := by
  have HC := hid h
  clear h
  have HL := hid hl
  clear hl
  go_enter Try.func72, Try.ntmps72
  go_wp2_with (first | (go_at_call 77; ((with_reducible refine (pick_any _ h1 h2 HC.out HL.out (by omega)).mono ?_); rintro ee w1 ⟨v1, rfl, a1, b1, hC1, hK1⟩; have HC1 := hid hC1; clear hC1)))
  go_ret
  exact ⟨_, rfl, HC1.out, hK1⟩

set_option maxRecDepth 100000 in
set_option maxHeartbeats 4000000 in
theorem among_any (b o n cp : Nat) (h1 : 2 ≤ n) (h2 : n ≤ 1000) {g len cap M : Nat} {A : Option Addr} {w : World} (h : Cu w g A len cap M) (hl : (len : Int) ≤ 9223372036854775807) (hM : M ≤ 5000000000) (hb : b ≠ g) (hz : ∀ i, i < n → ∃ z : Int, w.cell? ⟨b, o + i, none⟩ = some (.int .i64 z)) :
    Calls Try.prog 76 #[.pointer (some ⟨g, 0, none⟩), .slice (some ⟨b, o, none⟩) n cp] w fun e w' => ∃ v : Int, e = .returned (.int .i64 v) ∧ (∃ i, i < n ∧ w.cell? ⟨b, o + i, none⟩ = some (.int .i64 v)) ∧ Cu w' g A len cap (M + 2) ∧ Kp g w w' := by
  have HC := hid h
  clear h
  have HL := hid hl
  clear hl
  have HZ := hid hz
  clear hz
  have hn3 : (n : Int) ≤ 1000 := by omega
  have HN := hid (show (2 : Int) ≤ (n : Int) by omega)
  have HN2 := hid (show (n : Int) ≤ 100000 by omega)
  go_enter Try.func76, Try.ntmps76
  go_wp2_with (first | (go_at_call 77; ((with_reducible refine (pick_any _ HN.out HN2.out HC.out HL.out (by omega)).mono ?_); rintro ee w1 ⟨v1, rfl, a1, b1, hC1, hK1⟩; have HC1 := hid hC1; clear hC1; obtain ⟨i, rfl⟩ := Int.eq_ofNat_of_zero_le a1; obtain ⟨z, hz⟩ := HZ.out i (by omega); have hzz : w1.cell? ⟨b, o + i, none⟩ = some (.int .i64 z) := (hK1.cell (World.block_lt_of_cell? w _ hz) hb).trans hz)))
  go_ret
  exact ⟨_, rfl, ⟨i, by omega, hz⟩, HC1.out, hK1⟩
end Go.Proofs.Ytefmglofnoinmaa
namespace Go.Proofs.Ytefmglofnoinmaa
open Go.RowKit RM
set_option linter.unusedVariables false
set_option linter.unusedSimpArgs false
attribute [local irreducible] World.setCell

set_option maxRecDepth 100000 in
set_option maxHeartbeats 8000000 in
theorem coef_any {g len cap M : Nat} {A : Option Addr} {w : World} (h : Cu w g A len cap M) (hl : (len : Int) ≤ 9223372036854775807) (hM : M ≤ 2000000000) :
    Calls Try.prog 98 #[.pointer (some ⟨g, 0, none⟩)] w fun e w' => ∃ v : Int, e = .returned (.int .i64 v) ∧ Cu w' g A len cap (M + 4) ∧ Kp g w w' := by
  have HC := hid h
  have hg := h.lt
  clear h
  have HL := hid hl
  clear hl
  go_enter Try.func98, Try.ntmps98
  go_wp2_with (first | (go_at_call 76; ((with_reducible refine (among_any w1.heap.size 0 4 4 (by decide) (by decide) (HC1.out.alloc _) HL.out (by omega) ?hb ?hz).mono ?_); (case hb => have := HC1.out.lt; omega); (case hz => intro i hi; rcases (show i = 0 ∨ i = 1 ∨ i = 2 ∨ i = 3 ∨ i = 4 by omega) with rfl | rfl | rfl | rfl | rfl <;> first | exact ⟨_, (World.cell?_alloc_at _ _ _ _ rfl).trans rfl⟩ | omega); (rintro ee w2 ⟨v2, rfl, _, hC2, hK2⟩; have HC2 := hid hC2; have hs2 := hK2.size; (try simp at hs2)))) | (go_at_call 77; ((with_reducible refine (pick_any _ (by decide) (by decide) HC.out HL.out (by omega)).mono ?_); rintro ee w1 ⟨v1, rfl, a1, b1, hC1, hK1⟩; have HC1 := hid hC1; have hs1 := hK1.size; (try simp at hs1))) | (go_at_call 77; ((with_reducible refine (pick_any _ (by decide) (by decide) HC1.out HL.out (by omega)).mono ?_); rintro ee w2 ⟨v2, rfl, a2, b2, hC2, hK2⟩; have HC2 := hid hC2; have hs2 := hK2.size; (try simp at hs2))))
  all_goals (go_ret; refine ⟨_, rfl, ?_, ?_⟩)
  all_goals (first | (exact Cu.mono (by assumption) (by omega)) | (repeat' (first | (with_reducible assumption) | (with_reducible exact Kp.refl _ _) | (with_reducible refine Kp.alloc ?_ _) | (with_reducible refine Kp.drew ?_) | (with_reducible refine Kp.setNew ?_ ?_) | (with_reducible refine Kp.trans ?_ (by with_reducible assumption)) | (with_reducible refine Kp.trans ?_ (Kp.ofBelow (by with_reducible assumption))) | omega | (simp; done) | (simp; omega))))

set_option maxRecDepth 100000 in
set_option maxHeartbeats 8000000 in
theorem ring_any {g len cap M : Nat} {A : Option Addr} {w : World} (h : Cu w g A len cap M) (hl : (len : Int) ≤ 9223372036854775807) (hM : M ≤ 2000000000) :
    Calls Try.prog 71 #[.pointer (some ⟨g, 0, none⟩)] w fun e w' => ∃ a b c d : Int, e = .returned (rg a b c d) ∧ vr a b c d = true ∧ Cu w' g A len cap (M + 8) ∧ Kp g w w' := by
  have HC := hid h
  have hg := h.lt
  clear h
  have HL := hid hl
  clear hl
  go_enter Try.func71, Try.ntmps71
  go_wp2_with (first | (go_at_call 77; ((with_reducible refine (pick_any _ (by decide) (by decide) (hid (HC.out.alloc _)).out HL.out (by omega)).mono ?_); rintro ee w1 ⟨v1, rfl, a1, b1, hC1, hK1⟩; have HC1 := hid hC1; have hs1 := hK1.size; (try simp at hs1))) | (go_at_call 77; ((with_reducible refine (pick_any _ (by decide) (by decide) HC1.out HL.out (by omega)).mono ?_); rintro ee w2 ⟨v2, rfl, a2, b2, hC2, hK2⟩; have HC2 := hid hC2; have hs2 := hK2.size; (try simp at hs2))) | (go_at_call 77; ((with_reducible refine (pick_any _ (by decide) (by decide) HC2.out HL.out (by omega)).mono ?_); rintro ee w3 ⟨v3, rfl, a3, b3, hC3, hK3⟩; have HC3 := hid hC3; have hs3 := hK3.size; (try simp at hs3))) | (go_at_call 77; ((with_reducible refine (pick_any _ (by decide) (by decide) HC3.out HL.out (by omega)).mono ?_); rintro ee w4 ⟨v4, rfl, a4, b4, hC4, hK4⟩; have HC4 := hid hC4; have hs4 := hK4.size; (try simp at hs4); have hZ := ((((C4.new w 25).kp hK1 (by omega)).kp hK2 (by omega)).kp hK3 (by omega)).kp hK4 (by omega); obtain ⟨z0, z1, z2, z3, z4, z5, z6, z7⟩ := hZ)))
  refine bodyPost_ret (v := rg (v1 - 4) (v2 - 4) (v3 - 4) (v4 - 4)) (by first | (simp [results, Try.results71, go_sem, *]; done) | (simp (disch := (first | omega | (simp; done) | (simp; omega))) [results, Try.results71, go_sem, *]; done) | (simp only [results, Try.results71]; go_simp; done)) rfl ⟨_, _, _, _, rfl, vr_iff.2 ⟨by omega, by omega, by omega, by omega⟩, ?_, ?_⟩
  · repeat' (first | (with_reducible refine Cu.set ?_ ?_) | (with_reducible refine Cu.alloc ?_ _) | (with_reducible refine Cu.drew ?_) | (exact Cu.mono (by assumption) (by omega)) | (exact Cu.below (Cu.mono (by assumption) (by omega)) (by assumption)) | omega | (simp; omega))
  · repeat' (first | (with_reducible assumption) | (with_reducible exact Kp.refl _ _) | (with_reducible refine Kp.alloc ?_ _) | (with_reducible refine Kp.drew ?_) | (with_reducible refine Kp.setNew ?_ ?_) | (with_reducible refine Kp.trans ?_ (by with_reducible assumption)) | (with_reducible refine Kp.trans ?_ (Kp.ofBelow (by with_reducible assumption))) | omega | (simp; done) | (simp; omega))
end Go.Proofs.Ytefmglofnoinmaa
namespace Go.Proofs.Ytefmglofnoinmaa
open Go.RowKit RM
set_option linter.unusedVariables false
set_option linter.unusedSimpArgs false
attribute [local irreducible] World.setCell

theorem lg_any (a b c d : Int) (w : World) : Calls Try.prog 67 #[rg a b c d] w fun ee w' => ee = .returned (.bool (vr a b c d)) ∧ Below w.heap.size w w' := by
  cases h : vr a b c d
  · exact lg_f a b c d w h
  · exact lg_t a b c d w h

set_option maxRecDepth 100000 in
set_option maxHeartbeats 8000000 in
theorem anyRing_any {g len cap M : Nat} {A : Option Addr} {w : World} (h : Cu w g A len cap M) (hl : (len : Int) ≤ 9223372036854775807) (hM : M ≤ 1000000000) :
    Calls Try.prog 70 #[.pointer (some ⟨g, 0, none⟩)] w fun e w' => ∃ a b c d : Int, e = .returned (rg a b c d) ∧ Cu w' g A len cap (M + 18) ∧ Kp g w w' := by
  have HC := hid h
  have hg := h.lt
  clear h
  have HL := hid hl
  clear hl
  go_enter Try.func70, Try.ntmps70
  go_wp2_with (first | (go_at_call 72; ((with_reducible refine (one_any _ (by decide) (by decide) (hid (HC.out.alloc _)).out HL.out (by omega)).mono ?_); rintro ee w1 ⟨v1, rfl, hC1, hK1⟩; have HC1 := hid hC1; have hs1 := hK1.size; (try simp at hs1))) | (go_at_call 98; ((with_reducible refine (coef_any HC1.out HL.out (by omega)).mono ?_); rintro ee w2 ⟨v2, rfl, hC2, hK2⟩; have HC2 := hid hC2; have hs2 := hK2.size; (try simp at hs2))) | (go_at_call 98; ((with_reducible refine (coef_any HC2.out HL.out (by omega)).mono ?_); rintro ee w3 ⟨v3, rfl, hC3, hK3⟩; have HC3 := hid hC3; have hs3 := hK3.size; (try simp at hs3))) | (go_at_call 98; ((with_reducible refine (coef_any HC3.out HL.out (by omega)).mono ?_); rintro ee w4 ⟨v4, rfl, hC4, hK4⟩; have HC4 := hid hC4; have hs4 := hK4.size; (try simp at hs4))) | (go_at_call 98; ((with_reducible refine (coef_any HC4.out HL.out (by omega)).mono ?_); rintro ee w5 ⟨v5, rfl, hC5, hK5⟩; have HC5 := hid hC5; have hs5 := hK5.size; (try simp at hs5); have hZ := (((((C4.new w 25).kp hK1 (by omega)).kp hK2 (by omega)).kp hK3 (by omega)).kp hK4 (by omega)).kp hK5 (by omega); obtain ⟨z0, z1, z2, z3, z4, z5, z6, z7⟩ := hZ)) | (go_at_call 71; ((with_reducible refine (ring_any HC1.out HL.out (by omega)).mono ?_); rintro ee w6 ⟨r0, r1, r2, r3, rfl, hv6, hC6, hK6⟩; have HC6 := hid hC6; have hs6 := hK6.size; (try simp at hs6); have HV6 := hid hv6; clear hv6; have hZ := ((C4.new w 25).kp hK1 (by omega)).kp hK6 (by omega); obtain ⟨z0, z1, z2, z3, z4, z5, z6, z7⟩ := hZ)))
  · refine bodyPost_ret (v := rg v2 v3 v4 v5) (by first | (simp [results, Try.results70, go_sem, *]; done) | (simp (disch := (first | omega | (simp; done) | (simp; omega))) [results, Try.results70, go_sem, *]; done) | (simp only [results, Try.results70]; go_simp; done)) rfl ⟨_, _, _, _, rfl, ?_, ?_⟩
    · repeat' (first | (with_reducible refine Cu.set ?_ ?_) | (with_reducible refine Cu.alloc ?_ _) | (with_reducible refine Cu.drew ?_) | (exact Cu.mono (by assumption) (by omega)) | (exact Cu.below (Cu.mono (by assumption) (by omega)) (by assumption)) | omega | (simp; omega))
    · repeat' (first | (with_reducible assumption) | (with_reducible exact Kp.refl _ _) | (with_reducible refine Kp.alloc ?_ _) | (with_reducible refine Kp.drew ?_) | (with_reducible refine Kp.setNew ?_ ?_) | (with_reducible refine Kp.trans ?_ (by with_reducible assumption)) | (with_reducible refine Kp.trans ?_ (Kp.ofBelow (by with_reducible assumption))) | omega | (simp; done) | (simp; omega))
  · refine bodyPost_ret (v := rg r0 r1 r2 r3) (by first | (simp [results, Try.results70, go_sem, *]; done) | (simp (disch := (first | omega | (simp; done) | (simp; omega))) [results, Try.results70, go_sem, *]; done) | (simp only [results, Try.results70]; go_simp; done)) rfl ⟨_, _, _, _, rfl, ?_, ?_⟩
    · repeat' (first | (with_reducible refine Cu.set ?_ ?_) | (with_reducible refine Cu.alloc ?_ _) | (with_reducible refine Cu.drew ?_) | (exact Cu.mono (by assumption) (by omega)) | (exact Cu.below (Cu.mono (by assumption) (by omega)) (by assumption)) | omega | (simp; omega))
    · repeat' (first | (with_reducible assumption) | (with_reducible exact Kp.refl _ _) | (with_reducible refine Kp.alloc ?_ _) | (with_reducible refine Kp.drew ?_) | (with_reducible refine Kp.setNew ?_ ?_) | (with_reducible refine Kp.trans ?_ (by with_reducible assumption)) | (with_reducible refine Kp.trans ?_ (Kp.ofBelow (by with_reducible assumption))) | omega | (simp; done) | (simp; omega))

set_option maxRecDepth 100000 in
set_option maxHeartbeats 8000000 in
theorem dyadic_any {g len cap M : Nat} {A : Option Addr} {w : World} (h : Cu w g A len cap M) (hl : (len : Int) ≤ 9223372036854775807) (hM : M ≤ 1000000000) :
    Calls Try.prog 103 #[.pointer (some ⟨g, 0, none⟩)] w fun e w' => ∃ a b c d x : Int, e = .returned (dy a b c d x) ∧ Cu w' g A len cap (M + 10) ∧ Kp g w w' := by
  have HC := hid h
  have hg := h.lt
  clear h
  have HL := hid hl
  clear hl
  go_enter Try.func103, Try.ntmps103
  go_wp2_with (first | (go_at_call 71; ((with_reducible refine (ring_any (hid (HC.out.alloc _)).out HL.out (by omega)).mono ?_); rintro ee w1 ⟨r0, r1, r2, r3, rfl, hv1, hC1, hK1⟩; have HC1 := hid hC1; have hs1 := hK1.size; (try simp at hs1); have HV1 := hid hv1; clear hv1)) | (go_at_call 77; ((with_reducible refine (pick_any _ (by decide) (by decide) HC1.out HL.out (by omega)).mono ?_); rintro ee w2 ⟨v2, rfl, a2, b2, hC2, hK2⟩; have HC2 := hid hC2; have hs2 := hK2.size; (try simp at hs2); obtain ⟨k2, rfl⟩ := Int.eq_ofNat_of_zero_le a2; have hk2 : k2 ≤ 60 := (by omega); rcases hq : low k2 r0 r1 r2 r3 with ⟨L, M0, N, O, E⟩; have HQ := hid hq; clear hq; have HK := hid hk2)) | (go_at_call 79; ((with_reducible refine (l2low _ _ _ _ _ _ _ _ _ _ _ HV1.out HK.out HQ.out).mono ?_); rintro ee w3 ⟨rfl, hb3⟩; have hs3 := hb3.size; have hZ := (((C5.mk0 w 39).kp hK1 (by omega)).kp hK2 (by omega)).mono hb3; obtain ⟨z0, z1, z2, z3, z4, z5, z6, z7, z8, z9⟩ := hZ)))
  refine bodyPost_ret (v := dy L M0 N O E) (by first | (simp [results, Try.results103, go_sem, *]; done) | (simp (disch := (first | omega | (simp; done) | (simp; omega))) [results, Try.results103, go_sem, *]; done) | (simp only [results, Try.results103]; go_simp; done)) rfl ⟨_, _, _, _, _, rfl, ?_, ?_⟩
  · repeat' (first | (with_reducible refine Cu.set ?_ ?_) | (with_reducible refine Cu.alloc ?_ _) | (with_reducible refine Cu.drew ?_) | (exact Cu.mono (by assumption) (by omega)) | (exact Cu.below (Cu.mono (by assumption) (by omega)) (by assumption)) | omega | (simp; omega))
  · repeat' (first | (with_reducible assumption) | (with_reducible exact Kp.refl _ _) | (with_reducible refine Kp.alloc ?_ _) | (with_reducible refine Kp.drew ?_) | (with_reducible refine Kp.setNew ?_ ?_) | (with_reducible refine Kp.trans ?_ (by with_reducible assumption)) | (with_reducible refine Kp.trans ?_ (Kp.ofBelow (by with_reducible assumption))) | omega | (simp; done) | (simp; omega))
end Go.Proofs.Ytefmglofnoinmaa
namespace Go.Proofs.Ytefmglofnoinmaa
open Go.RowKit RM
set_option linter.unusedVariables false
set_option linter.unusedSimpArgs false
attribute [local irreducible] World.setCell

theorem list4 {W : World} {t : TypeId} {i : Nat} {v : Int} (hi : i < 4) (h : (W.alloc (.cells #[.int .i64 0, .int .i64 3, .int .i64 59, .int .i64 60] t)).cell? ⟨W.heap.size, 0 + i, none⟩ = some (.int .i64 v)) : ∃ k : Nat, k ≤ 60 ∧ v = (k : Int) := by
  rw [World.cell?_alloc_at _ _ _ _ rfl] at h
  rcases (show i = 0 ∨ i = 1 ∨ i = 2 ∨ i = 3 by omega) with rfl | rfl | rfl | rfl
  · simp at h; exact ⟨0, by omega, by omega⟩
  · simp at h; exact ⟨3, by omega, by omega⟩
  · simp at h; exact ⟨59, by omega, by omega⟩
  · simp at h; exact ⟨60, by omega, by omega⟩

theorem C4.of (W : World) (a b c d : Int) (t : TypeId) : C4 (W.alloc (.cells #[.int .i64 a, .int .i64 b, .int .i64 c, .int .i64 d] t)) W.heap.size a b c d := ⟨by go_simp, by go_simp, by go_simp, by go_simp, by go_simp, by go_simp, by go_simp, by go_simp⟩

set_option maxRecDepth 100000 in
set_option maxHeartbeats 8000000 in
theorem anyDyadic_any {g len cap M : Nat} {A : Option Addr} {w : World} (h : Cu w g A len cap M) (hl : (len : Int) ≤ 9223372036854775807) (hM : M ≤ 500000000) :
    Calls Try.prog 81 #[.pointer (some ⟨g, 0, none⟩)] w fun e w' => ∃ a b c d x : Int, e = .returned (dy a b c d x) ∧ Cu w' g A len cap (M + 30) ∧ Kp g w w' := by
  have HC := hid h
  have hg := h.lt
  clear h
  have HL := hid hl
  clear hl
  go_enter Try.func81, Try.ntmps81
  go_wp2_with (first | (go_at_call 77; ((with_reducible refine (pick_any _ (by decide) (by decide) (hid (HC.out.alloc _)).out HL.out (by omega)).mono ?_); rintro ee w1 ⟨v1, rfl, a1, b1, hC1, hK1⟩; have HC1 := hid hC1; have hs1 := hK1.size; (try simp at hs1))) | (go_at_call 71; ((with_reducible refine (ring_any HC1.out HL.out (by omega)).mono ?_); rintro ee w2 ⟨r0, r1, r2, r3, rfl, hv2, hC2, hK2⟩; have HC2 := hid hC2; have hs2 := hK2.size; (try simp at hs2))) | (go_at_call 76; ((with_reducible refine (among_any w2.heap.size 0 5 5 (by decide) (by decide) (HC2.out.alloc _) HL.out (by omega) ?hb ?hz).mono ?_); (case hb => have := HC2.out.lt; omega); (case hz => intro i hi; rcases (show i = 0 ∨ i = 1 ∨ i = 2 ∨ i = 3 ∨ i = 4 by omega) with rfl | rfl | rfl | rfl | rfl <;> first | exact ⟨_, (World.cell?_alloc_at _ _ _ _ rfl).trans rfl⟩ | omega); (rintro ee w3 ⟨v3, rfl, ⟨i3, hi3, hl3⟩, hC3, hK3⟩; have HC3 := hid hC3; have hs3 := hK3.size; (try simp at hs3); have hZ := ((((C5.mk0 w 39).kp hK1 (by omega)).kp hK2 (by omega)).al).kp hK3 (by omega); obtain ⟨z0, z1, z2, z3, z4, z5, z6, z7, z8, z9⟩ := hZ))) | (go_at_call 70; ((with_reducible refine (anyRing_any HC1.out HL.out (by omega)).mono ?_); rintro ee w4 ⟨r0, r1, r2, r3, rfl, hC4, hK4⟩; have HC4 := hid hC4; have hs4 := hK4.size; (try simp at hs4); have hZ4 := ((C5.mk0 w 39).kp hK1 (by omega)).kp hK4 (by omega))) | (go_at_call 67; ((with_reducible refine (lg_any _ _ _ _ _).mono ?_); rintro ee w5 ⟨rfl, hb5⟩; have hs5 := hb5.size; (try simp at hs5); have hx45 : w4.heap.size < w5.heap.size := (by omega); have HC5 := hid ((HC4.out.alloc _).below hb5); have hZ5 := (hZ4.al).mono hb5; have hX5 := (C4.of w4 r0 r1 r2 r3 25).mono hb5; obtain ⟨x0, x1, x2, x3, x4, x5, x6, x7⟩ := id hX5)) | (go_at_call 103; ((with_reducible refine (dyadic_any HC5.out HL.out (by omega)).mono ?_); rintro ee w6 ⟨d0, d1, d2, d3, d4, rfl, hC6, hK6⟩; have HC6 := hid hC6; have hs6 := hK6.size; (try simp at hs6); have hZ := hZ5.kp hK6 (by omega); obtain ⟨z0, z1, z2, z3, z4, z5, z6, z7, z8, z9⟩ := hZ)) | (go_at_call 103; ((with_reducible refine (dyadic_any HC1.out HL.out (by omega)).mono ?_); rintro ee w6 ⟨d0, d1, d2, d3, d4, rfl, hC6, hK6⟩; have HC6 := hid hC6; have hs6 := hK6.size; (try simp at hs6); have hZ := ((C5.mk0 w 39).kp hK1 (by omega)).kp hK6 (by omega); obtain ⟨z0, z1, z2, z3, z4, z5, z6, z7, z8, z9⟩ := hZ)) | (go_at_call 77; ((with_reducible refine (pick_any _ (by decide) (by decide) HC1.out HL.out (by omega)).mono ?_); rintro ee w7 ⟨v7, rfl, a7, b7, hC7, hK7⟩; have HC7 := hid hC7; have hs7 := hK7.size; (try simp at hs7); obtain ⟨k7, rfl⟩ := Int.eq_ofNat_of_zero_le a7; have HK7 := hid (show k7 < 8 by omega))) | (go_at_call 92; ((with_reducible refine (l2pw _ _ HK7.out).mono ?_); rintro ee w8 ⟨rfl, hb8⟩; have hs8 := hb8.size; have hZ := (((C5.mk0 w 39).kp hK1 (by omega)).kp hK7 (by omega)).mono hb8; obtain ⟨z0, z1, z2, z3, z4, z5, z6, z7, z8, z9⟩ := hZ)))
  · refine bodyPost_ret (v := dy r0 r1 r2 r3 v3) (by first | (simp [results, Try.results81, go_sem, *]; done) | (simp (disch := (first | omega | (simp; done) | (simp; omega))) [results, Try.results81, go_sem, *]; done) | (simp only [results, Try.results81]; go_simp; done)) rfl ⟨_, _, _, _, _, rfl, ?_, ?_⟩
    · repeat' (first | (with_reducible refine Cu.set ?_ ?_) | (with_reducible refine Cu.alloc ?_ _) | (with_reducible refine Cu.drew ?_) | (exact Cu.mono (by assumption) (by omega)) | (exact Cu.below (Cu.mono (by assumption) (by omega)) (by assumption)) | omega | (simp; omega))
    · repeat' (first | (with_reducible assumption) | (with_reducible exact Kp.refl _ _) | (with_reducible refine Kp.alloc ?_ _) | (with_reducible refine Kp.drew ?_) | (with_reducible refine Kp.setNew ?_ ?_) | (with_reducible refine Kp.trans ?_ (by with_reducible assumption)) | (with_reducible refine Kp.trans ?_ (Kp.ofBelow (by with_reducible assumption))) | omega | (simp; done) | (simp; omega))
  · have HV := hid (by assumption : vr r0 r1 r2 r3 = true)
    go_region_with (first
      | (go_at_call 76; ((with_reducible refine (among_any w5.heap.size 0 4 4 (by decide) (by decide) (HC5.out.alloc _).drew HL.out (by omega) ?hb ?hz).mono ?_); (case hb => have := HC5.out.lt; omega); (case hz => intro i hi; rcases (show i = 0 ∨ i = 1 ∨ i = 2 ∨ i = 3 ∨ i = 4 by omega) with rfl | rfl | rfl | rfl | rfl <;> first | exact ⟨_, (World.cell?_alloc_at _ _ _ _ rfl).trans rfl⟩ | omega); (rintro ee w9 ⟨v9, rfl, ⟨i9, hi9, hl9⟩, hC9, hK9⟩; have HC9 := hid hC9; have hs9 := hK9.size; (try simp at hs9); obtain ⟨k9, hk9, rfl⟩ := list4 hi9 hl9; have HK9 := hid hk9; rcases hq : low k9 r0 r1 r2 r3 with ⟨L, M0, N, O, E⟩; have HQ := hid hq; clear hq; have hX9 := (hX5.mono ((Below.refl _ _).alloc (Nat.le_refl _) _)).kpd hK9 (by omega); obtain ⟨q0, q1, q2, q3, q4, q5, q6, q7⟩ := id hX9; have hZ9 := hZ5.al.kpd hK9 (by omega))))
      | (go_at_call 79; ((with_reducible refine (l2low _ _ _ _ _ _ _ _ _ _ _ HV.out HK9.out HQ.out).mono ?_); rintro ee w10 ⟨rfl, hb10⟩; have hs10 := hb10.size; (try simp at hs10); have hZ := hZ9.monod hb10; obtain ⟨z0, z1, z2, z3, z4, z5, z6, z7, z8, z9⟩ := hZ)))
    all_goals (go_wp2_with fail; refine bodyPost_ret (v := dy L M0 N O E) (by first | (simp [results, Try.results81, go_sem, *]; done) | (simp (disch := (first | omega | (simp; done) | (simp; omega))) [results, Try.results81, go_sem, *]; done) | (simp only [results, Try.results81]; go_simp; done)) rfl ⟨_, _, _, _, _, rfl, ?_, ?_⟩)
    all_goals (first | (repeat' (first | (with_reducible refine Cu.set ?_ ?_) | (with_reducible refine Cu.alloc ?_ _) | (with_reducible refine Cu.drew ?_) | (exact Cu.mono (by assumption) (by omega)) | (exact Cu.below (Cu.mono (by assumption) (by omega)) (by assumption)) | omega | (simp; omega))) | skip)
    all_goals (repeat' (first | (with_reducible assumption) | (with_reducible exact Kp.refl _ _) | (with_reducible refine Kp.alloc ?_ _) | (with_reducible refine Kp.drew ?_) | (with_reducible refine Kp.setNew ?_ ?_) | (with_reducible refine Kp.trans ?_ (by with_reducible assumption)) | (with_reducible refine Kp.trans ?_ (Kp.ofBelow (by with_reducible assumption))) | omega | (simp; done) | (simp; omega)))
  · refine bodyPost_ret (v := dy d0 d1 d2 d3 d4) (by first | (simp [results, Try.results81, go_sem, *]; done) | (simp (disch := (first | omega | (simp; done) | (simp; omega))) [results, Try.results81, go_sem, *]; done) | (simp only [results, Try.results81]; go_simp; done)) rfl ⟨_, _, _, _, _, rfl, ?_, ?_⟩
    · repeat' (first | (with_reducible refine Cu.set ?_ ?_) | (with_reducible refine Cu.alloc ?_ _) | (with_reducible refine Cu.drew ?_) | (exact Cu.mono (by assumption) (by omega)) | (exact Cu.below (Cu.mono (by assumption) (by omega)) (by assumption)) | omega | (simp; omega))
    · repeat' (first | (with_reducible assumption) | (with_reducible exact Kp.refl _ _) | (with_reducible refine Kp.alloc ?_ _) | (with_reducible refine Kp.drew ?_) | (with_reducible refine Kp.setNew ?_ ?_) | (with_reducible refine Kp.trans ?_ (by with_reducible assumption)) | (with_reducible refine Kp.trans ?_ (Kp.ofBelow (by with_reducible assumption))) | omega | (simp; done) | (simp; omega))
  · refine bodyPost_ret (v := dy (pw k7).a (pw k7).b (pw k7).c (pw k7).d 0) (by first | (simp [results, Try.results81, go_sem, *]; done) | (simp (disch := (first | omega | (simp; done) | (simp; omega))) [results, Try.results81, go_sem, *]; done) | (simp only [results, Try.results81]; go_simp; done)) rfl ⟨_, _, _, _, _, rfl, ?_, ?_⟩
    · repeat' (first | (with_reducible refine Cu.set ?_ ?_) | (with_reducible refine Cu.alloc ?_ _) | (with_reducible refine Cu.drew ?_) | (exact Cu.mono (by assumption) (by omega)) | (exact Cu.below (Cu.mono (by assumption) (by omega)) (by assumption)) | omega | (simp; omega))
    · repeat' (first | (with_reducible assumption) | (with_reducible exact Kp.refl _ _) | (with_reducible refine Kp.alloc ?_ _) | (with_reducible refine Kp.drew ?_) | (with_reducible refine Kp.setNew ?_ ?_) | (with_reducible refine Kp.trans ?_ (by with_reducible assumption)) | (with_reducible refine Kp.trans ?_ (Kp.ofBelow (by with_reducible assumption))) | omega | (simp; done) | (simp; omega))
  · refine bodyPost_ret (v := dy d0 d1 d2 d3 d4) (by first | (simp [results, Try.results81, go_sem, *]; done) | (simp (disch := (first | omega | (simp; done) | (simp; omega))) [results, Try.results81, go_sem, *]; done) | (simp only [results, Try.results81]; go_simp; done)) rfl ⟨_, _, _, _, _, rfl, ?_, ?_⟩
    · repeat' (first | (with_reducible refine Cu.set ?_ ?_) | (with_reducible refine Cu.alloc ?_ _) | (with_reducible refine Cu.drew ?_) | (exact Cu.mono (by assumption) (by omega)) | (exact Cu.below (Cu.mono (by assumption) (by omega)) (by assumption)) | omega | (simp; omega))
    · repeat' (first | (with_reducible assumption) | (with_reducible exact Kp.refl _ _) | (with_reducible refine Kp.alloc ?_ _) | (with_reducible refine Kp.drew ?_) | (with_reducible refine Kp.setNew ?_ ?_) | (with_reducible refine Kp.trans ?_ (by with_reducible assumption)) | (with_reducible refine Kp.trans ?_ (Kp.ofBelow (by with_reducible assumption))) | omega | (simp; done) | (simp; omega))
end Go.Proofs.Ytefmglofnoinmaa
namespace Go.Proofs.Ytefmglofnoinmaa
open Go.RowKit RM
set_option linter.unusedVariables false
set_option linter.unusedSimpArgs false
attribute [local irreducible] World.setCell

/-- the bytes of a slice -/
structure Bs (W : World) (A : Option Addr) (len : Nat) : Prop where
  le : (len : Int) ≤ 9223372036854775807
  bytes : ∀ i, i < len → ∃ (b off : Nat) (z : Int), A = some ⟨b, off, none⟩ ∧ W.cell? ⟨b, off + i, none⟩ = some (.int .u8 z) ∧ 0 ≤ z ∧ z ≤ 255
theorem Bs.below {W W' : World} {A : Option Addr} {len : Nat} (h : Bs W A len) (hb : Below W.heap.size W W') : Bs W' A len :=
  ⟨h.le, fun i hi => by obtain ⟨b, off, z, h1, h2, h3⟩ := h.bytes i hi; exact ⟨b, off, z, h1, kc hb h2, h3⟩⟩
theorem Bs.alloc {W : World} {A : Option Addr} {len : Nat} (h : Bs W A len) (x : Obj) : Bs (W.alloc x) A len := h.below ((Below.refl _ _).alloc (Nat.le_refl _) _)
theorem Cu.start {W : World} {A : Option Addr} {len : Nat} (cap : Nat) (t : TypeId) (h : Bs W A len) : Cu (W.alloc (.cells #[.slice A len cap, .int .i64 0, .int .u64 0] t)) W.heap.size A len cap 0 := by
  refine ⟨by go_simp, ⟨0, by go_simp, Nat.le_refl _⟩, ⟨0, by go_simp, by decide, by decide⟩, by go_simp, by go_simp, fun i hi => ?_⟩
  obtain ⟨b, off, z, h1, h2, h3⟩ := h.bytes i hi
  exact ⟨b, off, z, h1, World.block_lt_of_cell? W _ h2, kal h2, h3⟩
theorem Cu.startg {W : World} {A : Option Addr} {len : Nat} {g : Nat} (cap : Nat) (t : TypeId) (h : Bs W A len) (hg : W.heap.size = g) : Cu (W.alloc (.cells #[.slice A len cap, .int .i64 0, .int .u64 0] t)) g A len cap 0 := by
  subst hg; exact Cu.start cap t h
theorem Kp.belowA {g : Nat} {w a b : World} (h : Kp g a b) (hw : Below w.heap.size w a) (hg : w.heap.size ≤ g) : Below w.heap.size w b :=
  hw.trans (h.below hg hw.size)

set_option maxRecDepth 100000 in
set_option maxHeartbeats 8000000 in
theorem dR1 {A : Option Addr} {len cap : Nat} {w : World} (h : Bs w A len) :
    Calls Try.prog 62 #[.slice A len cap] w fun e w' => ∃ a b c d : Int, e = .returned (rg a b c d) ∧ Below w.heap.size w w' := by
  have HC := hid h
  have HL := hid h.le
  clear h
  go_enter Try.func62, Try.ntmps62
  go_wp2_with (first | (go_at_call 70; ((with_reducible refine (anyRing_any (Cu.startg (g := w.heap.size + 1) cap _ (HC.out.alloc _) (by simp)) HL.out (by omega)).mono ?_); rintro ee w1 ⟨a, b, c, d, rfl, hC1, hK1⟩; have HC1 := hid hC1; have hs1 := hK1.size; (try simp at hs1); have hZ := ((C4.new w 25).mono ((Below.refl _ _).alloc (Nat.le_refl _) _)).kp hK1 (by omega); obtain ⟨z0, z1, z2, z3, z4, z5, z6, z7⟩ := hZ)))
  refine bodyPost_ret (v := rg a b c d) (by first | (simp [results, Try.results62, go_sem, *]; done) | (simp (disch := (first | omega | (simp; done) | (simp; omega))) [results, Try.results62, go_sem, *]; done) | (simp only [results, Try.results62]; go_simp; done)) rfl ⟨_, _, _, _, rfl, ?_⟩
  repeat' (first | (with_reducible assumption) | (with_reducible exact Below.refl _ _) | (with_reducible refine Below.alloc ?_ ?_ _) | (with_reducible refine Below.drew ?_) | (with_reducible refine Below.setCell ?_ ?_ _) | (with_reducible refine Kp.belowA (by with_reducible assumption) ?_ ?_) | (with_reducible refine chain ?_ (by with_reducible assumption) ?_) | omega | (simp; done) | (simp; omega))

set_option maxRecDepth 100000 in
set_option maxHeartbeats 8000000 in
theorem dConj {A : Option Addr} {len cap : Nat} {w : World} (h : Bs w A len) :
    Calls Try.prog 19 #[.slice A len cap] w fun e w' => ∃ a b c d : Int, e = .returned (rg a b c d) ∧ Below w.heap.size w w' := by
  have HC := hid h
  have HL := hid h.le
  clear h
  go_enter Try.func19, Try.ntmps19
  go_wp2_with (first | (go_at_call 62; ((with_reducible refine (dR1 (HC.out.alloc _)).mono ?_); rintro ee w1 ⟨a, b, c, d, rfl, hb1⟩; have hs1 := hb1.size; (try simp at hs1); have hZ := (C4.new w 25).mono hb1; obtain ⟨z0, z1, z2, z3, z4, z5, z6, z7⟩ := hZ)))
  refine bodyPost_ret (v := rg a b c d) (by first | (simp [results, Try.results19, go_sem, *]; done) | (simp (disch := (first | omega | (simp; done) | (simp; omega))) [results, Try.results19, go_sem, *]; done) | (simp only [results, Try.results19]; go_simp; done)) rfl ⟨_, _, _, _, rfl, ?_⟩
  repeat' (first | (with_reducible assumption) | (with_reducible exact Below.refl _ _) | (with_reducible refine Below.alloc ?_ ?_ _) | (with_reducible refine Below.drew ?_) | (with_reducible refine Below.setCell ?_ ?_ _) | (with_reducible refine Kp.belowA (by with_reducible assumption) ?_ ?_) | (with_reducible refine chain ?_ (by with_reducible assumption) ?_) | omega | (simp; done) | (simp; omega))

set_option maxRecDepth 100000 in
set_option maxHeartbeats 8000000 in
theorem dRoot {A : Option Addr} {len cap : Nat} {w : World} (h : Bs w A len) :
    Calls Try.prog 28 #[.slice A len cap] w fun e w' => ∃ a b c d : Int, e = .returned (rg a b c d) ∧ Below w.heap.size w w' := by
  have HC := hid h
  have HL := hid h.le
  clear h
  go_enter Try.func28, Try.ntmps28
  go_wp2_with (first | (go_at_call 62; ((with_reducible refine (dR1 (HC.out.alloc _)).mono ?_); rintro ee w1 ⟨a, b, c, d, rfl, hb1⟩; have hs1 := hb1.size; (try simp at hs1); have hZ := (C4.new w 25).mono hb1; obtain ⟨z0, z1, z2, z3, z4, z5, z6, z7⟩ := hZ)))
  refine bodyPost_ret (v := rg a b c d) (by first | (simp [results, Try.results28, go_sem, *]; done) | (simp (disch := (first | omega | (simp; done) | (simp; omega))) [results, Try.results28, go_sem, *]; done) | (simp only [results, Try.results28]; go_simp; done)) rfl ⟨_, _, _, _, rfl, ?_⟩
  repeat' (first | (with_reducible assumption) | (with_reducible exact Below.refl _ _) | (with_reducible refine Below.alloc ?_ ?_ _) | (with_reducible refine Below.drew ?_) | (with_reducible refine Below.setCell ?_ ?_ _) | (with_reducible refine Kp.belowA (by with_reducible assumption) ?_ ?_) | (with_reducible refine chain ?_ (by with_reducible assumption) ?_) | omega | (simp; done) | (simp; omega))

set_option maxRecDepth 100000 in
set_option maxHeartbeats 8000000 in
theorem dR2 {A : Option Addr} {len cap : Nat} {w : World} (h : Bs w A len) :
    Calls Try.prog 61 #[.slice A len cap] w fun e w' => ∃ a b c d p q r s : Int, e = .returned (.tuple #[rg a b c d, rg p q r s]) ∧ Below w.heap.size w w' := by
  have HC := hid h
  have HL := hid h.le
  clear h
  go_enter Try.func61, Try.ntmps61
  go_wp2_with (first | (go_at_call 70; ((with_reducible refine (anyRing_any (Cu.startg (g := w.heap.size + 1 + 1) cap _ ((HC.out.alloc _).alloc _) (by simp)) HL.out (by omega)).mono ?_); rintro ee w1 ⟨a, b, c, d, rfl, hC1, hK1⟩; have HC1 := hid hC1; have hs1 := hK1.size; (try simp at hs1))) | (go_at_call 70; ((with_reducible refine (anyRing_any HC1.out HL.out (by omega)).mono ?_); rintro ee w2 ⟨p, q, r, s, rfl, hC2, hK2⟩; have HC2 := hid hC2; have hs2 := hK2.size; (try simp at hs2); have hZ := (((C4.new w 25).mono (((Below.refl _ _).alloc (Nat.le_refl _) _).alloc (by simp) _)).kp hK1 (by omega)).kp hK2 (by omega); have hY := (((C4.new (w.alloc (.cells #[.int .i64 0, .int .i64 0, .int .i64 0, .int .i64 0] 25)) 25).mono ((Below.refl _ _).alloc (Nat.le_refl _) _)).kp hK1 (by simp)).kp hK2 (by simp); (try simp only [World.size_alloc] at hY); obtain ⟨z0, z1, z2, z3, z4, z5, z6, z7⟩ := hZ; obtain ⟨y0, y1, y2, y3, y4, y5, y6, y7⟩ := hY)))
  refine bodyPost_ret (v := .tuple #[rg a b c d, rg p q r s]) (by first | (simp [results, Try.results61, go_sem, *]; done) | (simp (disch := (first | omega | (simp; done) | (simp; omega))) [results, Try.results61, go_sem, *]; done) | (simp only [results, Try.results61]; go_simp; done)) rfl ⟨_, _, _, _, _, _, _, _, rfl, ?_⟩
  repeat' (first | (with_reducible assumption) | (with_reducible exact Below.refl _ _) | (with_reducible refine Below.alloc ?_ ?_ _) | (with_reducible refine Below.drew ?_) | (with_reducible refine Below.setCell ?_ ?_ _) | (with_reducible refine Kp.belowA (by with_reducible assumption) ?_ ?_) | (with_reducible refine chain ?_ (by with_reducible assumption) ?_) | omega | (simp; done) | (simp; omega))

set_option maxRecDepth 100000 in
set_option maxHeartbeats 8000000 in
theorem dMul {A : Option Addr} {len cap : Nat} {w : World} (h : Bs w A len) :
    Calls Try.prog 18 #[.slice A len cap] w fun e w' => ∃ a b c d p q r s : Int, e = .returned (.tuple #[rg a b c d, rg p q r s]) ∧ Below w.heap.size w w' := by
  have HC := hid h
  have HL := hid h.le
  clear h
  go_enter Try.func18, Try.ntmps18
  go_wp2_with (first | (go_at_call 61; ((with_reducible refine (dR2 ((HC.out.alloc _).alloc _)).mono ?_); rintro ee w1 ⟨a, b, c, d, p, q, r, s, rfl, hb1⟩; have hs1 := hb1.size; (try simp at hs1); have hZ := ((C4.new w 25).mono ((Below.refl _ _).alloc (Nat.le_refl _) _)).mono hb1; have hY := (C4.new (w.alloc (.cells #[.int .i64 0, .int .i64 0, .int .i64 0, .int .i64 0] 25)) 25).mono hb1; (try simp only [World.size_alloc] at hY); obtain ⟨z0, z1, z2, z3, z4, z5, z6, z7⟩ := hZ; obtain ⟨y0, y1, y2, y3, y4, y5, y6, y7⟩ := hY)))
  refine bodyPost_ret (v := .tuple #[rg a b c d, rg p q r s]) (by first | (simp [results, Try.results18, go_sem, *]; done) | (simp (disch := (first | omega | (simp; done) | (simp; omega))) [results, Try.results18, go_sem, *]; done) | (simp only [results, Try.results18]; go_simp; done)) rfl ⟨_, _, _, _, _, _, _, _, rfl, ?_⟩
  repeat' (first | (with_reducible assumption) | (with_reducible exact Below.refl _ _) | (with_reducible refine Below.alloc ?_ ?_ _) | (with_reducible refine Below.drew ?_) | (with_reducible refine Below.setCell ?_ ?_ _) | (with_reducible refine Kp.belowA (by with_reducible assumption) ?_ ?_) | (with_reducible refine chain ?_ (by with_reducible assumption) ?_) | omega | (simp; done) | (simp; omega))

set_option maxRecDepth 100000 in
set_option maxHeartbeats 8000000 in
theorem dD1 {A : Option Addr} {len cap : Nat} {w : World} (h : Bs w A len) :
    Calls Try.prog 82 #[.slice A len cap] w fun e w' => ∃ a b c d x : Int, e = .returned (dy a b c d x) ∧ Below w.heap.size w w' := by
  have HC := hid h
  have HL := hid h.le
  clear h
  go_enter Try.func82, Try.ntmps82
  go_wp2_with (first | (go_at_call 81; ((with_reducible refine (anyDyadic_any (Cu.startg (g := w.heap.size + 1) cap _ (HC.out.alloc _) (by simp)) HL.out (by omega)).mono ?_); rintro ee w1 ⟨a, b, c, d, x, rfl, hC1, hK1⟩; have HC1 := hid hC1; have hs1 := hK1.size; (try simp at hs1); have hZ := ((C5.mk0 w 39).mono ((Below.refl _ _).alloc (Nat.le_refl _) _)).kp hK1 (by omega); obtain ⟨z0, z1, z2, z3, z4, z5, z6, z7, z8, z9⟩ := hZ)))
  refine bodyPost_ret (v := dy a b c d x) (by first | (simp [results, Try.results82, go_sem, *]; done) | (simp (disch := (first | omega | (simp; done) | (simp; omega))) [results, Try.results82, go_sem, *]; done) | (simp only [results, Try.results82]; go_simp; done)) rfl ⟨_, _, _, _, _, rfl, ?_⟩
  repeat' (first | (with_reducible assumption) | (with_reducible exact Below.refl _ _) | (with_reducible refine Below.alloc ?_ ?_ _) | (with_reducible refine Below.drew ?_) | (with_reducible refine Below.setCell ?_ ?_ _) | (with_reducible refine Kp.belowA (by with_reducible assumption) ?_ ?_) | (with_reducible refine chain ?_ (by with_reducible assumption) ?_) | omega | (simp; done) | (simp; omega))

set_option maxRecDepth 100000 in
set_option maxHeartbeats 8000000 in
theorem dConjD {A : Option Addr} {len cap : Nat} {w : World} (h : Bs w A len) :
    Calls Try.prog 41 #[.slice A len cap] w fun e w' => ∃ a b c d x : Int, e = .returned (dy a b c d x) ∧ Below w.heap.size w w' := by
  have HC := hid h
  have HL := hid h.le
  clear h
  go_enter Try.func41, Try.ntmps41
  go_wp2_with (first | (go_at_call 82; ((with_reducible refine (dD1 (HC.out.alloc _)).mono ?_); rintro ee w1 ⟨a, b, c, d, x, rfl, hb1⟩; have hs1 := hb1.size; (try simp at hs1); have hZ := (C5.mk0 w 39).mono hb1; obtain ⟨z0, z1, z2, z3, z4, z5, z6, z7, z8, z9⟩ := hZ)))
  refine bodyPost_ret (v := dy a b c d x) (by first | (simp [results, Try.results41, go_sem, *]; done) | (simp (disch := (first | omega | (simp; done) | (simp; omega))) [results, Try.results41, go_sem, *]; done) | (simp only [results, Try.results41]; go_simp; done)) rfl ⟨_, _, _, _, _, rfl, ?_⟩
  repeat' (first | (with_reducible assumption) | (with_reducible exact Below.refl _ _) | (with_reducible refine Below.alloc ?_ ?_ _) | (with_reducible refine Below.drew ?_) | (with_reducible refine Below.setCell ?_ ?_ _) | (with_reducible refine Kp.belowA (by with_reducible assumption) ?_ ?_) | (with_reducible refine chain ?_ (by with_reducible assumption) ?_) | omega | (simp; done) | (simp; omega))

set_option maxRecDepth 100000 in
set_option maxHeartbeats 8000000 in
theorem dD2 {A : Option Addr} {len cap : Nat} {w : World} (h : Bs w A len) :
    Calls Try.prog 40 #[.slice A len cap] w fun e w' => ∃ a b c d x p q r s y : Int, e = .returned (.tuple #[dy a b c d x, dy p q r s y]) ∧ Below w.heap.size w w' := by
  have HC := hid h
  have HL := hid h.le
  clear h
  go_enter Try.func40, Try.ntmps40
  go_wp2_with (first | (go_at_call 81; ((with_reducible refine (anyDyadic_any (Cu.startg (g := w.heap.size + 1 + 1) cap _ ((HC.out.alloc _).alloc _) (by simp)) HL.out (by omega)).mono ?_); rintro ee w1 ⟨a, b, c, d, x, rfl, hC1, hK1⟩; have HC1 := hid hC1; have hs1 := hK1.size; (try simp at hs1))) | (go_at_call 81; ((with_reducible refine (anyDyadic_any HC1.out HL.out (by omega)).mono ?_); rintro ee w2 ⟨p, q, r, s, y, rfl, hC2, hK2⟩; have HC2 := hid hC2; have hs2 := hK2.size; (try simp at hs2); have hZ := (((C5.mk0 w 39).mono (((Below.refl _ _).alloc (Nat.le_refl _) _).alloc (by simp) _)).kp hK1 (by omega)).kp hK2 (by omega); have hY := (((C5.mk0 (w.alloc (.cells #[.int .i64 0, .int .i64 0, .int .i64 0, .int .i64 0, .int .i64 0] 39)) 39).mono ((Below.refl _ _).alloc (Nat.le_refl _) _)).kp hK1 (by simp)).kp hK2 (by simp); (try simp only [World.size_alloc] at hY); obtain ⟨z0, z1, z2, z3, z4, z5, z6, z7, z8, z9⟩ := hZ; obtain ⟨y0, y1, y2, y3, y4, y5, y6, y7, y8, y9⟩ := hY)))
  refine bodyPost_ret (v := .tuple #[dy a b c d x, dy p q r s y]) (by first | (simp [results, Try.results40, go_sem, *]; done) | (simp (disch := (first | omega | (simp; done) | (simp; omega))) [results, Try.results40, go_sem, *]; done) | (simp only [results, Try.results40]; go_simp; done)) rfl ⟨_, _, _, _, _, _, _, _, _, _, rfl, ?_⟩
  repeat' (first | (with_reducible assumption) | (with_reducible exact Below.refl _ _) | (with_reducible refine Below.alloc ?_ ?_ _) | (with_reducible refine Below.drew ?_) | (with_reducible refine Below.setCell ?_ ?_ _) | (with_reducible refine Kp.belowA (by with_reducible assumption) ?_ ?_) | (with_reducible refine chain ?_ (by with_reducible assumption) ?_) | omega | (simp; done) | (simp; omega))

set_option maxRecDepth 100000 in
set_option maxHeartbeats 8000000 in
theorem dCmp {A : Option Addr} {len cap : Nat} {w : World} (h : Bs w A len) :
    Calls Try.prog 38 #[.slice A len cap] w fun e w' => ∃ a b c d x p q r s y : Int, e = .returned (.tuple #[dy a b c d x, dy p q r s y]) ∧ Below w.heap.size w w' := by
  have HC := hid h
  have HL := hid h.le
  clear h
  go_enter Try.func38, Try.ntmps38
  go_wp2_with (first | (go_at_call 40; ((with_reducible refine (dD2 ((HC.out.alloc _).alloc _)).mono ?_); rintro ee w1 ⟨a, b, c, d, x, p, q, r, s, y, rfl, hb1⟩; have hs1 := hb1.size; (try simp at hs1); have hZ := ((C5.mk0 w 39).mono ((Below.refl _ _).alloc (Nat.le_refl _) _)).mono hb1; have hY := (C5.mk0 (w.alloc (.cells #[.int .i64 0, .int .i64 0, .int .i64 0, .int .i64 0, .int .i64 0] 39)) 39).mono hb1; (try simp only [World.size_alloc] at hY); obtain ⟨z0, z1, z2, z3, z4, z5, z6, z7, z8, z9⟩ := hZ; obtain ⟨y0, y1, y2, y3, y4, y5, y6, y7, y8, y9⟩ := hY)))
  refine bodyPost_ret (v := .tuple #[dy a b c d x, dy p q r s y]) (by first | (simp [results, Try.results38, go_sem, *]; done) | (simp (disch := (first | omega | (simp; done) | (simp; omega))) [results, Try.results38, go_sem, *]; done) | (simp only [results, Try.results38]; go_simp; done)) rfl ⟨_, _, _, _, _, _, _, _, _, _, rfl, ?_⟩
  repeat' (first | (with_reducible assumption) | (with_reducible exact Below.refl _ _) | (with_reducible refine Below.alloc ?_ ?_ _) | (with_reducible refine Below.drew ?_) | (with_reducible refine Below.setCell ?_ ?_ _) | (with_reducible refine Kp.belowA (by with_reducible assumption) ?_ ?_) | (with_reducible refine chain ?_ (by with_reducible assumption) ?_) | omega | (simp; done) | (simp; omega))
end Go.Proofs.Ytefmglofnoinmaa
