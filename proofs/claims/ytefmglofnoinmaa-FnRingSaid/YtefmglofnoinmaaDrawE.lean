/- Contracts of the laws' draws. -/
import Derived.Test.YtefmglofnoinmaaDrawD
import Derived.Deep.LoopGhost
import Derived.Test.YtefmglofnoinmaaHeldB
import Derived.Deep.RegionHeld3
import Derived.Deep.MidRow
import Derived.Deep.DeepCutAuto
import Derived.Deep.RegionWith
namespace Go.Proofs.Ytefmglofnoinmaa
open Go.RowKit RM
set_option linter.unusedVariables false
set_option linter.unusedSimpArgs false
attribute [local irreducible] World.setCell

/-- the bytes of a slice -/
structure Bs (W : World) (A : Option Addr) (len : Nat) : Prop where
  le : (len : Int) ≤ 9223372036854775807
  bytes : ∀ i, i < len → ∃ (b off : Nat) (z : Int), A = some ⟨b, off, none⟩ ∧ W.cell? ⟨b, off + i, none⟩ = some (.int .u8 z) ∧ 0 ≤ z ∧ z ≤ 255
theorem Bs.below {W W' : World} {A : Option Addr} {len : Nat} (h : Bs W A len) (hb : Below W.heap.size W W') : Bs W' A len :=
  ⟨h.le, fun i hi => by obtain ⟨b, off, z, h1, h2, h3⟩ := h.bytes i hi; exact ⟨b, off, z, h1, kc hb h2, h3⟩⟩
theorem Bs.alloc {W : World} {A : Option Addr} {len : Nat} (h : Bs W A len) (x : Obj) : Bs (W.alloc x) A len := h.below ((Below.refl _ _).alloc (Nat.le_refl _) _)
theorem Cu.start {W : World} {A : Option Addr} {len : Nat} (cap : Nat) (t : TypeId) (h : Bs W A len) : Cu (W.alloc (.cells #[.slice A len cap, .int .i64 0, .int .u64 0] t)) W.heap.size A len cap 0 := by
  refine ⟨by go_simp, ⟨0, by go_simp, Nat.le_refl _⟩, ⟨0, by go_simp, by decide, by decide⟩, by go_simp, by go_simp, fun i hi => ?_⟩
  obtain ⟨b, off, z, h1, h2, h3⟩ := h.bytes i hi
  exact ⟨b, off, z, h1, World.block_lt_of_cell? W _ h2, kal h2, h3⟩
theorem Cu.startg {W : World} {A : Option Addr} {len : Nat} {g : Nat} (cap : Nat) (t : TypeId) (h : Bs W A len) (hg : W.heap.size = g) : Cu (W.alloc (.cells #[.slice A len cap, .int .i64 0, .int .u64 0] t)) g A len cap 0 := by
  subst hg; exact Cu.start cap t h
theorem Kp.belowA {g : Nat} {w a b : World} (h : Kp g a b) (hw : Below w.heap.size w a) (hg : w.heap.size ≤ g) : Below w.heap.size w b :=
  hw.trans (h.below hg hw.size)

set_option maxRecDepth 100000 in
set_option maxHeartbeats 8000000 in
theorem dR1 {A : Option Addr} {len cap : Nat} {w : World} (h : Bs w A len) :
    Calls Try.prog 62 #[.slice A len cap] w fun e w' => ∃ a b c d : Int, e = .returned (rg a b c d) ∧ Below w.heap.size w w' := by
  have HC := hid h
  have HL := hid h.le
  clear h
  go_enter Try.func62, Try.ntmps62
  go_wp2_with (first | (go_at_call 70; ((with_reducible refine (anyRing_any (Cu.startg (g := w.heap.size + 1) cap _ (HC.out.alloc _) (by simp)) HL.out (by omega)).mono ?_); rintro ee w1 ⟨a, b, c, d, rfl, hC1, hK1⟩; have HC1 := hid hC1; have hs1 := hK1.size; (try simp at hs1); have hZ := ((C4.new w 25).mono ((Below.refl _ _).alloc (Nat.le_refl _) _)).kp hK1 (by omega); obtain ⟨z0, z1, z2, z3, z4, z5, z6, z7⟩ := hZ)))
  refine bodyPost_ret (v := rg a b c d) (by first | (simp [results, Try.results62, go_sem, *]; done) | (simp (disch := (first | omega | (simp; done) | (simp; omega))) [results, Try.results62, go_sem, *]; done) | (simp only [results, Try.results62]; go_simp; done)) rfl ⟨_, _, _, _, rfl, ?_⟩
  repeat' (first | (with_reducible assumption) | (with_reducible exact Below.refl _ _) | (with_reducible refine Below.alloc ?_ ?_ _) | (with_reducible refine Below.drew ?_) | (with_reducible refine Below.setCell ?_ ?_ _) | (with_reducible refine Kp.belowA (by with_reducible assumption) ?_ ?_) | (with_reducible refine chain ?_ (by with_reducible assumption) ?_) | omega | (simp; done) | (simp; omega))

set_option maxRecDepth 100000 in
set_option maxHeartbeats 8000000 in
theorem dConj {A : Option Addr} {len cap : Nat} {w : World} (h : Bs w A len) :
    Calls Try.prog 19 #[.slice A len cap] w fun e w' => ∃ a b c d : Int, e = .returned (rg a b c d) ∧ Below w.heap.size w w' := by
  have HC := hid h
  have HL := hid h.le
  clear h
  go_enter Try.func19, Try.ntmps19
  go_wp2_with (first | (go_at_call 62; ((with_reducible refine (dR1 (HC.out.alloc _)).mono ?_); rintro ee w1 ⟨a, b, c, d, rfl, hb1⟩; have hs1 := hb1.size; (try simp at hs1); have hZ := (C4.new w 25).mono hb1; obtain ⟨z0, z1, z2, z3, z4, z5, z6, z7⟩ := hZ)))
  refine bodyPost_ret (v := rg a b c d) (by first | (simp [results, Try.results19, go_sem, *]; done) | (simp (disch := (first | omega | (simp; done) | (simp; omega))) [results, Try.results19, go_sem, *]; done) | (simp only [results, Try.results19]; go_simp; done)) rfl ⟨_, _, _, _, rfl, ?_⟩
  repeat' (first | (with_reducible assumption) | (with_reducible exact Below.refl _ _) | (with_reducible refine Below.alloc ?_ ?_ _) | (with_reducible refine Below.drew ?_) | (with_reducible refine Below.setCell ?_ ?_ _) | (with_reducible refine Kp.belowA (by with_reducible assumption) ?_ ?_) | (with_reducible refine chain ?_ (by with_reducible assumption) ?_) | omega | (simp; done) | (simp; omega))

set_option maxRecDepth 100000 in
set_option maxHeartbeats 8000000 in
theorem dRoot {A : Option Addr} {len cap : Nat} {w : World} (h : Bs w A len) :
    Calls Try.prog 28 #[.slice A len cap] w fun e w' => ∃ a b c d : Int, e = .returned (rg a b c d) ∧ Below w.heap.size w w' := by
  have HC := hid h
  have HL := hid h.le
  clear h
  go_enter Try.func28, Try.ntmps28
  go_wp2_with (first | (go_at_call 62; ((with_reducible refine (dR1 (HC.out.alloc _)).mono ?_); rintro ee w1 ⟨a, b, c, d, rfl, hb1⟩; have hs1 := hb1.size; (try simp at hs1); have hZ := (C4.new w 25).mono hb1; obtain ⟨z0, z1, z2, z3, z4, z5, z6, z7⟩ := hZ)))
  refine bodyPost_ret (v := rg a b c d) (by first | (simp [results, Try.results28, go_sem, *]; done) | (simp (disch := (first | omega | (simp; done) | (simp; omega))) [results, Try.results28, go_sem, *]; done) | (simp only [results, Try.results28]; go_simp; done)) rfl ⟨_, _, _, _, rfl, ?_⟩
  repeat' (first | (with_reducible assumption) | (with_reducible exact Below.refl _ _) | (with_reducible refine Below.alloc ?_ ?_ _) | (with_reducible refine Below.drew ?_) | (with_reducible refine Below.setCell ?_ ?_ _) | (with_reducible refine Kp.belowA (by with_reducible assumption) ?_ ?_) | (with_reducible refine chain ?_ (by with_reducible assumption) ?_) | omega | (simp; done) | (simp; omega))

set_option maxRecDepth 100000 in
set_option maxHeartbeats 8000000 in
theorem dR2 {A : Option Addr} {len cap : Nat} {w : World} (h : Bs w A len) :
    Calls Try.prog 61 #[.slice A len cap] w fun e w' => ∃ a b c d p q r s : Int, e = .returned (.tuple #[rg a b c d, rg p q r s]) ∧ Below w.heap.size w w' := by
  have HC := hid h
  have HL := hid h.le
  clear h
  go_enter Try.func61, Try.ntmps61
  go_wp2_with (first | (go_at_call 70; ((with_reducible refine (anyRing_any (Cu.startg (g := w.heap.size + 1 + 1) cap _ ((HC.out.alloc _).alloc _) (by simp)) HL.out (by omega)).mono ?_); rintro ee w1 ⟨a, b, c, d, rfl, hC1, hK1⟩; have HC1 := hid hC1; have hs1 := hK1.size; (try simp at hs1))) | (go_at_call 70; ((with_reducible refine (anyRing_any HC1.out HL.out (by omega)).mono ?_); rintro ee w2 ⟨p, q, r, s, rfl, hC2, hK2⟩; have HC2 := hid hC2; have hs2 := hK2.size; (try simp at hs2); have hZ := (((C4.new w 25).mono (((Below.refl _ _).alloc (Nat.le_refl _) _).alloc (by simp) _)).kp hK1 (by omega)).kp hK2 (by omega); have hY := (((C4.new (w.alloc (.cells #[.int .i64 0, .int .i64 0, .int .i64 0, .int .i64 0] 25)) 25).mono ((Below.refl _ _).alloc (Nat.le_refl _) _)).kp hK1 (by simp)).kp hK2 (by simp); (try simp only [World.size_alloc] at hY); obtain ⟨z0, z1, z2, z3, z4, z5, z6, z7⟩ := hZ; obtain ⟨y0, y1, y2, y3, y4, y5, y6, y7⟩ := hY)))
  refine bodyPost_ret (v := .tuple #[rg a b c d, rg p q r s]) (by first | (simp [results, Try.results61, go_sem, *]; done) | (simp (disch := (first | omega | (simp; done) | (simp; omega))) [results, Try.results61, go_sem, *]; done) | (simp only [results, Try.results61]; go_simp; done)) rfl ⟨_, _, _, _, _, _, _, _, rfl, ?_⟩
  repeat' (first | (with_reducible assumption) | (with_reducible exact Below.refl _ _) | (with_reducible refine Below.alloc ?_ ?_ _) | (with_reducible refine Below.drew ?_) | (with_reducible refine Below.setCell ?_ ?_ _) | (with_reducible refine Kp.belowA (by with_reducible assumption) ?_ ?_) | (with_reducible refine chain ?_ (by with_reducible assumption) ?_) | omega | (simp; done) | (simp; omega))

set_option maxRecDepth 100000 in
set_option maxHeartbeats 8000000 in
theorem dMul {A : Option Addr} {len cap : Nat} {w : World} (h : Bs w A len) :
    Calls Try.prog 18 #[.slice A len cap] w fun e w' => ∃ a b c d p q r s : Int, e = .returned (.tuple #[rg a b c d, rg p q r s]) ∧ Below w.heap.size w w' := by
  have HC := hid h
  have HL := hid h.le
  clear h
  go_enter Try.func18, Try.ntmps18
  go_wp2_with (first | (go_at_call 61; ((with_reducible refine (dR2 ((HC.out.alloc _).alloc _)).mono ?_); rintro ee w1 ⟨a, b, c, d, p, q, r, s, rfl, hb1⟩; have hs1 := hb1.size; (try simp at hs1); have hZ := ((C4.new w 25).mono ((Below.refl _ _).alloc (Nat.le_refl _) _)).mono hb1; have hY := (C4.new (w.alloc (.cells #[.int .i64 0, .int .i64 0, .int .i64 0, .int .i64 0] 25)) 25).mono hb1; (try simp only [World.size_alloc] at hY); obtain ⟨z0, z1, z2, z3, z4, z5, z6, z7⟩ := hZ; obtain ⟨y0, y1, y2, y3, y4, y5, y6, y7⟩ := hY)))
  refine bodyPost_ret (v := .tuple #[rg a b c d, rg p q r s]) (by first | (simp [results, Try.results18, go_sem, *]; done) | (simp (disch := (first | omega | (simp; done) | (simp; omega))) [results, Try.results18, go_sem, *]; done) | (simp only [results, Try.results18]; go_simp; done)) rfl ⟨_, _, _, _, _, _, _, _, rfl, ?_⟩
  repeat' (first | (with_reducible assumption) | (with_reducible exact Below.refl _ _) | (with_reducible refine Below.alloc ?_ ?_ _) | (with_reducible refine Below.drew ?_) | (with_reducible refine Below.setCell ?_ ?_ _) | (with_reducible refine Kp.belowA (by with_reducible assumption) ?_ ?_) | (with_reducible refine chain ?_ (by with_reducible assumption) ?_) | omega | (simp; done) | (simp; omega))

set_option maxRecDepth 100000 in
set_option maxHeartbeats 8000000 in
theorem dD1 {A : Option Addr} {len cap : Nat} {w : World} (h : Bs w A len) :
    Calls Try.prog 82 #[.slice A len cap] w fun e w' => ∃ a b c d x : Int, e = .returned (dy a b c d x) ∧ Below w.heap.size w w' := by
  have HC := hid h
  have HL := hid h.le
  clear h
  go_enter Try.func82, Try.ntmps82
  go_wp2_with (first | (go_at_call 81; ((with_reducible refine (anyDyadic_any (Cu.startg (g := w.heap.size + 1) cap _ (HC.out.alloc _) (by simp)) HL.out (by omega)).mono ?_); rintro ee w1 ⟨a, b, c, d, x, rfl, hC1, hK1⟩; have HC1 := hid hC1; have hs1 := hK1.size; (try simp at hs1); have hZ := ((C5.mk0 w 39).mono ((Below.refl _ _).alloc (Nat.le_refl _) _)).kp hK1 (by omega); obtain ⟨z0, z1, z2, z3, z4, z5, z6, z7, z8, z9⟩ := hZ)))
  refine bodyPost_ret (v := dy a b c d x) (by first | (simp [results, Try.results82, go_sem, *]; done) | (simp (disch := (first | omega | (simp; done) | (simp; omega))) [results, Try.results82, go_sem, *]; done) | (simp only [results, Try.results82]; go_simp; done)) rfl ⟨_, _, _, _, _, rfl, ?_⟩
  repeat' (first | (with_reducible assumption) | (with_reducible exact Below.refl _ _) | (with_reducible refine Below.alloc ?_ ?_ _) | (with_reducible refine Below.drew ?_) | (with_reducible refine Below.setCell ?_ ?_ _) | (with_reducible refine Kp.belowA (by with_reducible assumption) ?_ ?_) | (with_reducible refine chain ?_ (by with_reducible assumption) ?_) | omega | (simp; done) | (simp; omega))

set_option maxRecDepth 100000 in
set_option maxHeartbeats 8000000 in
theorem dConjD {A : Option Addr} {len cap : Nat} {w : World} (h : Bs w A len) :
    Calls Try.prog 41 #[.slice A len cap] w fun e w' => ∃ a b c d x : Int, e = .returned (dy a b c d x) ∧ Below w.heap.size w w' := by
  have HC := hid h
  have HL := hid h.le
  clear h
  go_enter Try.func41, Try.ntmps41
  go_wp2_with (first | (go_at_call 82; ((with_reducible refine (dD1 (HC.out.alloc _)).mono ?_); rintro ee w1 ⟨a, b, c, d, x, rfl, hb1⟩; have hs1 := hb1.size; (try simp at hs1); have hZ := (C5.mk0 w 39).mono hb1; obtain ⟨z0, z1, z2, z3, z4, z5, z6, z7, z8, z9⟩ := hZ)))
  refine bodyPost_ret (v := dy a b c d x) (by first | (simp [results, Try.results41, go_sem, *]; done) | (simp (disch := (first | omega | (simp; done) | (simp; omega))) [results, Try.results41, go_sem, *]; done) | (simp only [results, Try.results41]; go_simp; done)) rfl ⟨_, _, _, _, _, rfl, ?_⟩
  repeat' (first | (with_reducible assumption) | (with_reducible exact Below.refl _ _) | (with_reducible refine Below.alloc ?_ ?_ _) | (with_reducible refine Below.drew ?_) | (with_reducible refine Below.setCell ?_ ?_ _) | (with_reducible refine Kp.belowA (by with_reducible assumption) ?_ ?_) | (with_reducible refine chain ?_ (by with_reducible assumption) ?_) | omega | (simp; done) | (simp; omega))

set_option maxRecDepth 100000 in
set_option maxHeartbeats 8000000 in
theorem dD2 {A : Option Addr} {len cap : Nat} {w : World} (h : Bs w A len) :
    Calls Try.prog 40 #[.slice A len cap] w fun e w' => ∃ a b c d x p q r s y : Int, e = .returned (.tuple #[dy a b c d x, dy p q r s y]) ∧ Below w.heap.size w w' := by
  have HC := hid h
  have HL := hid h.le
  clear h
  go_enter Try.func40, Try.ntmps40
  go_wp2_with (first | (go_at_call 81; ((with_reducible refine (anyDyadic_any (Cu.startg (g := w.heap.size + 1 + 1) cap _ ((HC.out.alloc _).alloc _) (by simp)) HL.out (by omega)).mono ?_); rintro ee w1 ⟨a, b, c, d, x, rfl, hC1, hK1⟩; have HC1 := hid hC1; have hs1 := hK1.size; (try simp at hs1))) | (go_at_call 81; ((with_reducible refine (anyDyadic_any HC1.out HL.out (by omega)).mono ?_); rintro ee w2 ⟨p, q, r, s, y, rfl, hC2, hK2⟩; have HC2 := hid hC2; have hs2 := hK2.size; (try simp at hs2); have hZ := (((C5.mk0 w 39).mono (((Below.refl _ _).alloc (Nat.le_refl _) _).alloc (by simp) _)).kp hK1 (by omega)).kp hK2 (by omega); have hY := (((C5.mk0 (w.alloc (.cells #[.int .i64 0, .int .i64 0, .int .i64 0, .int .i64 0, .int .i64 0] 39)) 39).mono ((Below.refl _ _).alloc (Nat.le_refl _) _)).kp hK1 (by simp)).kp hK2 (by simp); (try simp only [World.size_alloc] at hY); obtain ⟨z0, z1, z2, z3, z4, z5, z6, z7, z8, z9⟩ := hZ; obtain ⟨y0, y1, y2, y3, y4, y5, y6, y7, y8, y9⟩ := hY)))
  refine bodyPost_ret (v := .tuple #[dy a b c d x, dy p q r s y]) (by first | (simp [results, Try.results40, go_sem, *]; done) | (simp (disch := (first | omega | (simp; done) | (simp; omega))) [results, Try.results40, go_sem, *]; done) | (simp only [results, Try.results40]; go_simp; done)) rfl ⟨_, _, _, _, _, _, _, _, _, _, rfl, ?_⟩
  repeat' (first | (with_reducible assumption) | (with_reducible exact Below.refl _ _) | (with_reducible refine Below.alloc ?_ ?_ _) | (with_reducible refine Below.drew ?_) | (with_reducible refine Below.setCell ?_ ?_ _) | (with_reducible refine Kp.belowA (by with_reducible assumption) ?_ ?_) | (with_reducible refine chain ?_ (by with_reducible assumption) ?_) | omega | (simp; done) | (simp; omega))

set_option maxRecDepth 100000 in
set_option maxHeartbeats 8000000 in
theorem dCmp {A : Option Addr} {len cap : Nat} {w : World} (h : Bs w A len) :
    Calls Try.prog 38 #[.slice A len cap] w fun e w' => ∃ a b c d x p q r s y : Int, e = .returned (.tuple #[dy a b c d x, dy p q r s y]) ∧ Below w.heap.size w w' := by
  have HC := hid h
  have HL := hid h.le
  clear h
  go_enter Try.func38, Try.ntmps38
  go_wp2_with (first | (go_at_call 40; ((with_reducible refine (dD2 ((HC.out.alloc _).alloc _)).mono ?_); rintro ee w1 ⟨a, b, c, d, x, p, q, r, s, y, rfl, hb1⟩; have hs1 := hb1.size; (try simp at hs1); have hZ := ((C5.mk0 w 39).mono ((Below.refl _ _).alloc (Nat.le_refl _) _)).mono hb1; have hY := (C5.mk0 (w.alloc (.cells #[.int .i64 0, .int .i64 0, .int .i64 0, .int .i64 0, .int .i64 0] 39)) 39).mono hb1; (try simp only [World.size_alloc] at hY); obtain ⟨z0, z1, z2, z3, z4, z5, z6, z7, z8, z9⟩ := hZ; obtain ⟨y0, y1, y2, y3, y4, y5, y6, y7, y8, y9⟩ := hY)))
  refine bodyPost_ret (v := .tuple #[dy a b c d x, dy p q r s y]) (by first | (simp [results, Try.results38, go_sem, *]; done) | (simp (disch := (first | omega | (simp; done) | (simp; omega))) [results, Try.results38, go_sem, *]; done) | (simp only [results, Try.results38]; go_simp; done)) rfl ⟨_, _, _, _, _, _, _, _, _, _, rfl, ?_⟩
  repeat' (first | (with_reducible assumption) | (with_reducible exact Below.refl _ _) | (with_reducible refine Below.alloc ?_ ?_ _) | (with_reducible refine Below.drew ?_) | (with_reducible refine Below.setCell ?_ ?_ _) | (with_reducible refine Kp.belowA (by with_reducible assumption) ?_ ?_) | (with_reducible refine chain ?_ (by with_reducible assumption) ?_) | omega | (simp; done) | (simp; omega))
end Go.Proofs.Ytefmglofnoinmaa
