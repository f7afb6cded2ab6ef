/- The draws of the laws: what stays of a world in which one cursor moves; the next byte. -/
import Derived.Test.YtefmglofnoinmaaRingS
import Derived.Deep.QuietTactic
import Derived.BigQuiet
import Derived.Lib.SmallJoins
import Derived.OwnWalk
namespace Go.Proofs.Ytefmglofnoinmaa
open Go.RowKit RM
set_option linter.unusedVariables false
set_option linter.unusedSimpArgs false
attribute [local irreducible] World.setCell

/-- w' is w with new blocks; of the old ones block g alone may have turned -/
structure Kp (g : Nat) (w w' : World) : Prop where
  os : w'.os = w.os
  tape : w'.tape = w.tape
  output : w'.output = w.output
  size : w.heap.size ≤ w'.heap.size
  block : ∀ k, k < w.heap.size → k ≠ g → w'.heap[k]? = w.heap[k]?
theorem Kp.refl (g : Nat) (w : World) : Kp g w w := ⟨rfl, rfl, rfl, Nat.le_refl _, fun _ _ _ => rfl⟩
theorem Kp.trans {g : Nat} {a b c : World} (h : Kp g a b) (k : Kp g b c) : Kp g a c :=
  ⟨k.os.trans h.os, k.tape.trans h.tape, k.output.trans h.output, Nat.le_trans h.size k.size, fun i hi hn => (k.block i (Nat.lt_of_lt_of_le hi h.size) hn).trans (h.block i hi hn)⟩
theorem Kp.ofBelow {g : Nat} {a b : World} (h : Below a.heap.size a b) : Kp g a b :=
  ⟨h.os, h.tape, h.output, h.size, fun i hi _ => h.block i hi⟩
theorem Kp.below {g B : Nat} {a b : World} (h : Kp g a b) (hB : B ≤ g) (hS : B ≤ a.heap.size) : Below B a b :=
  ⟨h.os, h.tape, h.output, h.size, fun i hi => h.block i (Nat.lt_of_lt_of_le hi hS) (by omega)⟩
theorem Kp.drew {g : Nat} {a b : World} (h : Kp g a b) : Kp g a b.drew := ⟨h.os, h.tape, h.output, h.size, h.block⟩
theorem set_os (b : World) (a : Addr) (v : Value) : (b.setCell a v).os = b.os ∧ (b.setCell a v).tape = b.tape ∧ (b.setCell a v).output = b.output := by unfold World.setCell; exact ⟨rfl, rfl, rfl⟩
theorem Kp.set {g o : Nat} {a b : World} {v : Value} (h : Kp g a b) : Kp g a (b.setCell ⟨g, o, none⟩ v) :=
  ⟨(set_os _ _ _).1.trans h.os, (set_os _ _ _).2.1.trans h.tape, (set_os _ _ _).2.2.trans h.output, by simpa using h.size, fun i hi hn => (Below.heap_setCell _ _ _ _ hn).trans (h.block i hi hn)⟩
theorem Kp.drewN {g n : Nat} {a b : World} (h : Kp g a b) : Kp g a (b.drewN n) := ⟨h.os, h.tape, h.output, h.size, h.block⟩
theorem Kp.alloc {g : Nat} {a b : World} (h : Kp g a b) (o : Obj) : Kp g a (b.alloc o) := h.trans (Kp.ofBelow ((Below.refl _ _).alloc (Nat.le_refl _) _))
theorem Kp.cell {g : Nat} {a b : World} (h : Kp g a b) {k o : Nat} (hk : k < a.heap.size) (hn : k ≠ g) : b.cell? ⟨k, o, none⟩ = a.cell? ⟨k, o, none⟩ := World.cell?_of_block (w := a) (h.block k hk hn)
theorem Kp.frozen {g : Nat} {a b : World} (h : Kp g a b) {k o : Nat} (hk : k < a.heap.size) (hn : k ≠ g) : b.frozen? ⟨k, o, none⟩ = a.frozen? ⟨k, o, none⟩ := World.frozen?_of_block (w := a) (h.block k hk hn)
/-- a cursor at block g over len bytes; it stands at no more than M -/
structure Cu (W : World) (g : Nat) (A : Option Addr) (len cap M : Nat) : Prop where
  sl : W.cell? ⟨g, 0, none⟩ = some (.slice A len cap)
  pos : ∃ n : Nat, W.cell? ⟨g, 1, none⟩ = some (.int .i64 n) ∧ n ≤ M
  seed : ∃ m : Int, W.cell? ⟨g, 2, none⟩ = some (.int .u64 m) ∧ 0 ≤ m ∧ m < 18446744073709551616
  f1 : W.frozen? ⟨g, 1, none⟩ = false
  f2 : W.frozen? ⟨g, 2, none⟩ = false
  bytes : ∀ i, i < len → ∃ (b off : Nat) (z : Int), A = some ⟨b, off, none⟩ ∧ b < g ∧ W.cell? ⟨b, off + i, none⟩ = some (.int .u8 z) ∧ 0 ≤ z ∧ z ≤ 255
theorem Cu.mono {W : World} {g : Nat} {A : Option Addr} {len cap M M' : Nat} (h : Cu W g A len cap M) (hM : M ≤ M') : Cu W g A len cap M' :=
  ⟨h.sl, by obtain ⟨n, h1, h2⟩ := h.pos; exact ⟨n, h1, Nat.le_trans h2 hM⟩, h.seed, h.f1, h.f2, h.bytes⟩
theorem Cu.lt {W : World} {g : Nat} {A : Option Addr} {len cap M : Nat} (h : Cu W g A len cap M) : g < W.heap.size := World.block_lt_of_cell? W _ h.sl
theorem Cu.below {W W' : World} {g : Nat} {A : Option Addr} {len cap M : Nat} (h : Cu W g A len cap M) (hb : Below W.heap.size W W') : Cu W' g A len cap M := by
  have hl := h.lt
  obtain ⟨n, hn1, hn2⟩ := h.pos
  obtain ⟨m, hm1, hm2⟩ := h.seed
  refine ⟨(hb.cell (p := ⟨g, 0, none⟩) hl).trans h.sl, ⟨n, (hb.cell (p := ⟨g, 1, none⟩) hl).trans hn1, hn2⟩, ⟨m, (hb.cell (p := ⟨g, 2, none⟩) hl).trans hm1, hm2⟩, (hb.frozen (p := ⟨g, 1, none⟩) hl).trans h.f1, (hb.frozen (p := ⟨g, 2, none⟩) hl).trans h.f2, fun i hi => ?_⟩
  obtain ⟨b, off, z, h1, h2, h3, h4⟩ := h.bytes i hi
  exact ⟨b, off, z, h1, h2, kc hb h3, h4⟩

theorem Cu.set {W : World} {g k o : Nat} {A : Option Addr} {len cap M : Nat} {v : Value} (h : Cu W g A len cap M) (hk : g < k) : Cu (W.setCell ⟨k, o, none⟩ v) g A len cap M := by
  have hne : k ≠ g := by omega
  obtain ⟨h0, ⟨n, h1, hn⟩, ⟨m, h2, hm⟩, h3, h4, h5⟩ := h
  refine ⟨by rw [World.cell?_setCell_far _ _ _ _ hne]; exact h0, ⟨n, by rw [World.cell?_setCell_far _ _ _ _ hne]; exact h1, hn⟩, ⟨m, by rw [World.cell?_setCell_far _ _ _ _ hne]; exact h2, hm⟩, by rw [World.frozen?_setCell]; exact h3, by rw [World.frozen?_setCell]; exact h4, fun i hi => ?_⟩
  obtain ⟨b, off, z, e1, e2, e3, e4⟩ := h5 i hi
  exact ⟨b, off, z, e1, e2, by rw [World.cell?_setCell_far _ _ _ _ (by show k ≠ b; omega)]; exact e3, e4⟩
theorem Cu.alloc {W : World} {g : Nat} {A : Option Addr} {len cap M : Nat} (h : Cu W g A len cap M) (x : Obj) : Cu (W.alloc x) g A len cap M := h.below ((Below.refl _ _).alloc (Nat.le_refl _) _)
theorem Cu.drew {W : World} {g : Nat} {A : Option Addr} {len cap M : Nat} (h : Cu W g A len cap M) : Cu W.drew g A len cap M := ⟨h.sl, h.pos, h.seed, h.f1, h.f2, h.bytes⟩
theorem Kp.setNew {g k o : Nat} {a b : World} {v : Value} (h : Kp g a b) (hk : a.heap.size ≤ k) : Kp g a (b.setCell ⟨k, o, none⟩ v) :=
  ⟨(set_os _ _ _).1.trans h.os, (set_os _ _ _).2.1.trans h.tape, (set_os _ _ _).2.2.trans h.output, by simpa using h.size, fun i hi hn => (Below.heap_setCell _ _ _ _ (by show i ≠ k; omega)).trans (h.block i hi hn)⟩
theorem C4.kp {W W' : World} {k g : Nat} {a b c d : Int} (h : C4 W k a b c d) (hK : Kp g W W') (hne : k ≠ g) : C4 W' k a b c d := by
  have hl := h.lt
  exact ⟨(hK.cell hl hne).trans h.c0, (hK.cell hl hne).trans h.c1, (hK.cell hl hne).trans h.c2, (hK.cell hl hne).trans h.c3, (hK.frozen hl hne).trans h.f0, (hK.frozen hl hne).trans h.f1, (hK.frozen hl hne).trans h.f2, (hK.frozen hl hne).trans h.f3⟩
theorem C5.kp {W W' : World} {k g : Nat} {a b c d e : Int} (h : C5 W k a b c d e) (hK : Kp g W W') (hne : k ≠ g) : C5 W' k a b c d e := by
  have hl := h.lt
  exact ⟨(hK.cell hl hne).trans h.c0, (hK.cell hl hne).trans h.c1, (hK.cell hl hne).trans h.c2, (hK.cell hl hne).trans h.c3, (hK.cell hl hne).trans h.c4, (hK.frozen hl hne).trans h.f0, (hK.frozen hl hne).trans h.f1, (hK.frozen hl hne).trans h.f2, (hK.frozen hl hne).trans h.f3, (hK.frozen hl hne).trans h.f4⟩
theorem C4.kpd {W W1 W' : World} {k g : Nat} {a b c d : Int} (h : C4 W1 k a b c d) (hK : Kp g W W') (hne : k ≠ g) (he : W.heap = W1.heap := by rfl) : C4 W' k a b c d := by
  have hK' : Kp g { W1 with os := W.os, tape := W.tape, output := W.output } W' := ⟨hK.os, hK.tape, hK.output, by rw [← he]; exact hK.size, fun i hi hn => by rw [← he] at *; exact hK.block i hi hn⟩
  have h' : C4 { W1 with os := W.os, tape := W.tape, output := W.output } k a b c d := ⟨h.c0, h.c1, h.c2, h.c3, h.f0, h.f1, h.f2, h.f3⟩
  exact h'.kp hK' hne
theorem C5.kpd {W W1 W' : World} {k g : Nat} {a b c d e : Int} (h : C5 W1 k a b c d e) (hK : Kp g W W') (hne : k ≠ g) (he : W.heap = W1.heap := by rfl) : C5 W' k a b c d e := by
  have hK' : Kp g { W1 with os := W.os, tape := W.tape, output := W.output } W' := ⟨hK.os, hK.tape, hK.output, by rw [← he]; exact hK.size, fun i hi hn => by rw [← he] at *; exact hK.block i hi hn⟩
  have h' : C5 { W1 with os := W.os, tape := W.tape, output := W.output } k a b c d e := ⟨h.c0, h.c1, h.c2, h.c3, h.c4, h.f0, h.f1, h.f2, h.f3, h.f4⟩
  exact h'.kp hK' hne
theorem C5.monod {W W1 W' : World} {k : Nat} {a b c d e : Int} (h : C5 W1 k a b c d e) (hb : Below W.heap.size W W') (he : W.heap = W1.heap := by rfl) : C5 W' k a b c d e := by
  have hb' : Below ({ W1 with os := W.os, tape := W.tape, output := W.output } : World).heap.size { W1 with os := W.os, tape := W.tape, output := W.output } W' := ⟨hb.os, hb.tape, hb.output, by rw [← he]; exact hb.size, fun i hi => by rw [← he] at *; exact hb.block i hi⟩
  have h' : C5 { W1 with os := W.os, tape := W.tape, output := W.output } k a b c d e := ⟨h.c0, h.c1, h.c2, h.c3, h.c4, h.f0, h.f1, h.f2, h.f3, h.f4⟩
  exact h'.mono hb'
theorem C4.new (W : World) (t : TypeId) : C4 (W.alloc (.cells #[.int .i64 0, .int .i64 0, .int .i64 0, .int .i64 0] t)) W.heap.size 0 0 0 0 := ⟨by go_simp, by go_simp, by go_simp, by go_simp, by go_simp, by go_simp, by go_simp, by go_simp⟩
theorem C5.mk0 (W : World) (t : TypeId) : C5 (W.alloc (.cells #[.int .i64 0, .int .i64 0, .int .i64 0, .int .i64 0, .int .i64 0] t)) W.heap.size 0 0 0 0 0 := ⟨by go_simp, by go_simp, by go_simp, by go_simp, by go_simp, by go_simp, by go_simp, by go_simp, by go_simp, by go_simp⟩
theorem Cu.step {w : World} {g : Nat} {A : Option Addr} {len cap M n k1 k2 : Nat} {x : Int} (h : Cu w g A len cap M) (hn : n ≤ M) (x0 : 0 ≤ x) (x1 : x < 18446744073709551616) : Cu ((((w.drewN k1).setCell ⟨g, 1, none⟩ (.int .i64 ((n : Int) + 1))).setCell ⟨g, 2, none⟩ (.int .u64 x)).drewN k2) g A len cap (M + 1) := by
  obtain ⟨h0, ⟨n0, h1, _⟩, ⟨m0, h2, _⟩, h3, h4, h5⟩ := h
  refine ⟨by go_simp, ⟨n + 1, by go_simp, by omega⟩, ⟨x, by go_simp, x0, x1⟩, by go_simp, by go_simp, fun i hi => ?_⟩
  obtain ⟨b, off, z, e1, e2, e3, e4⟩ := h5 i hi
  refine ⟨b, off, z, e1, e2, ?_, e4⟩
  rw [World.cell?_drewN, World.cell?_setCell_far _ _ _ _ (by show g ≠ b; omega), World.cell?_setCell_far _ _ _ _ (by show g ≠ b; omega), World.cell?_drewN, e3]
theorem Kp.step {w : World} {g : Nat} {u v : Value} {k1 k2 : Nat} : Kp g w ((((w.drewN k1).setCell ⟨g, 1, none⟩ u).setCell ⟨g, 2, none⟩ v).drewN k2) := (((Kp.refl g w).drewN.set).set).drewN
theorem u64_bd (y : Int) : 0 ≤ IntKind.u64.wrap y ∧ IntKind.u64.wrap y < 18446744073709551616 := by
  have : IntKind.u64.wrap y = y % 18446744073709551616 := by simp [IntKind.wrap, IntKind.bits, IntKind.signed]
  rw [this]; omega
theorem byte_of (y : Int) : 0 ≤ wrap64 (bits BinOp.and IntKind.u64 (IntKind.u64.wrap y / 1099511627776) 255) ∧ wrap64 (bits BinOp.and IntKind.u64 (IntKind.u64.wrap y / 1099511627776) 255) ≤ 255 := by
  obtain ⟨h0, h1⟩ := u64_bd y
  obtain ⟨a, ha⟩ : ∃ a : Nat, IntKind.u64.wrap y / 1099511627776 = (a : Int) := ⟨(IntKind.u64.wrap y / 1099511627776).toNat, by omega⟩
  have hb : bits BinOp.and IntKind.u64 (IntKind.u64.wrap y / 1099511627776) 255 = ((a &&& 255 : Nat) : Int) := by
    rw [ha]; exact bits_and_u64_nat a 255 (by omega) (by omega)
  have hle : a &&& 255 ≤ 255 := Nat.and_le_right
  rw [hb]
  unfold wrap64
  omega

set_option maxRecDepth 100000 in
set_option maxHeartbeats 4000000 in
theorem next_lt (g b off len cap n M : Nat) (m z : Int) (w : World) (hC : Cu w g (some ⟨b, off, none⟩) len cap M) (hM : n ≤ M) (h0 : w.cell? ⟨g, 0, none⟩ = some (.slice (some ⟨b, off, none⟩) len cap)) (h1 : w.cell? ⟨g, 1, none⟩ = some (.int .i64 n)) (h2 : w.cell? ⟨g, 2, none⟩ = some (.int .u64 m))
    (f1 : w.frozen? ⟨g, 1, none⟩ = false) (f2 : w.frozen? ⟨g, 2, none⟩ = false) (hz : w.cell? ⟨b, off + n, none⟩ = some (.int .u8 z)) (hn : (n : Int) < (len : Int)) (hl : (len : Int) ≤ 9223372036854775807) (z0 : 0 ≤ z) (z1 : z ≤ 255) (hne : b ≠ g) :
    Calls Try.prog 100 #[.pointer (some ⟨g, 0, none⟩)] w fun e w' => e = .returned (.int .i64 z) ∧ Cu w' g (some ⟨b, off, none⟩) len cap (M + 1) ∧ Kp g w w' := by
  have hn0 : (0 : Int) ≤ (n : Int) := Int.natCast_nonneg _
  have HC := hid hC
  have HM := hid hM
  clear hC hM
  go_enter Try.func100, Try.ntmps100
  go_wp2_with fail
  go_quiet (fail)
  go_wp2_with fail
  go_quiet (fail)
  go_wp2_with fail
  go_quiet (fail)
  go_wp2_with fail
  go_ret
  exact ⟨by simp, HC.out.step HM.out (u64_bd _).1 (u64_bd _).2, Kp.step⟩

set_option maxRecDepth 100000 in
set_option maxHeartbeats 4000000 in
theorem next_ge (g len cap n M : Nat) (A : Option Addr) (m : Int) (w : World) (hC : Cu w g A len cap M) (hM : n ≤ M) (h0 : w.cell? ⟨g, 0, none⟩ = some (.slice A len cap)) (h1 : w.cell? ⟨g, 1, none⟩ = some (.int .i64 n)) (h2 : w.cell? ⟨g, 2, none⟩ = some (.int .u64 m))
    (f1 : w.frozen? ⟨g, 1, none⟩ = false) (f2 : w.frozen? ⟨g, 2, none⟩ = false) (hn : ¬ ((n : Int) < (len : Int))) (hl : (n : Int) ≤ 140737488355328) :
    Calls Try.prog 100 #[.pointer (some ⟨g, 0, none⟩)] w fun e w' => ∃ v : Int, e = .returned (.int .i64 v) ∧ 0 ≤ v ∧ v ≤ 255 ∧ Cu w' g A len cap (M + 1) ∧ Kp g w w' := by
  have hn0 : (0 : Int) ≤ (n : Int) := Int.natCast_nonneg _
  have HC := hid hC
  have HM := hid hM
  clear hC hM
  have hn2 : ¬ ((n : Int) + 1 ≤ (len : Int)) := by omega
  go_enter Try.func100, Try.ntmps100
  go_wp2_with fail
  go_quiet (fail)
  go_wp2_with fail
  go_quiet (fail)
  go_wp2_with fail
  go_ret
  refine ⟨_, rfl, ?_, ?_, HC.out.step HM.out (u64_bd _).1 (u64_bd _).2, Kp.step⟩
  · exact (byte_of _).1
  · exact (byte_of _).2
/-- the next byte -/
theorem next_any {g len cap M : Nat} {A : Option Addr} {w : World} (h : Cu w g A len cap M) (hl : (len : Int) ≤ 9223372036854775807) (hM : M ≤ 100000000000) :
    Calls Try.prog 100 #[.pointer (some ⟨g, 0, none⟩)] w fun e w' => ∃ v : Int, e = .returned (.int .i64 v) ∧ 0 ≤ v ∧ v ≤ 255 ∧ Cu w' g A len cap (M + 1) ∧ Kp g w w' := by
  obtain ⟨n, h1, hn⟩ := h.pos
  obtain ⟨m, h2, _, _⟩ := h.seed
  by_cases hlt : n < len
  · obtain ⟨b, off, z, rfl, e2, e3, e4, e5⟩ := h.bytes n hlt
    exact (next_lt g b off len cap n M m z w h hn h.sl h1 h2 h.f1 h.f2 e3 (by omega) hl e4 e5 (by omega)).mono fun e w' ⟨q, r⟩ => ⟨z, q, e4, e5, r⟩
  · exact next_ge g len cap n M A m w h hn h.sl h1 h2 h.f1 h.f2 (by omega) (by omega)
end Go.Proofs.Ytefmglofnoinmaa
