/- Draws of circuits: a circuit to invert. -/
import Derived.Test.YtdbnjoeanoiifaaDr5
import Derived.Deep.LoopGhost
namespace Go.Proofs.Ytdbnjoeanoiifaa
open Go.RowKit
set_option linter.unusedVariables false
set_option linter.unusedSimpArgs false
attribute [local irreducible] World.setCell

/-- a circuit is drawn, readable -/
def DiP (w : World) (ee : Ending) (w' : World) : Prop := ∃ (n : Int) (B : Option Addr) (cq : Nat) (xs : List GateV), ee = .returned (circuitV n B xs.length cq) ∧ xs.length ≤ 59 ∧ Rd gateE w' B xs ∧ Below w.heap.size w w'
theorem DiP.i {n : Int} {B : Option Addr} {cq k : Nat} {xs : List GateV} {w : World} {ee : Ending} {w' : World} (hk : xs.length = k) (h1 : ee = .returned (circuitV n B k cq)) (h2 : k ≤ 59) (h4 : Rd gateE w' B xs) (h6 : Below w.heap.size w w') : DiP w ee w' := by
  subst hk; exact ⟨n, B, cq, xs, h1, h2, h4, h6⟩
set_option maxRecDepth 100000 in
set_option maxHeartbeats 8000000 in
theorem draw_inverse {A : Option Addr} {len cap : Nat} {w : World} (h : By8 w A len) :
    Calls Try.prog 21 #[.slice A len cap] w fun ee w' => DiP w ee w' := by
  obtain ⟨i0, hi0, iz0, iz1, iz2⟩ := info_parts infoGate
  have H := lay h
  have hl := h.le
  clear h
  go_enter Try.func21, Try.ntmps21
  go_wp2_with (fail)
  refine (one_any 12 (by omega) (by omega) (Cu.startg (g := w.heap.size + 1) cap _ (H.out.alloc _) (by simp)) hl (by omega)).mono ?_
  rintro ee w1 ⟨v, rfl, hC1, hK1⟩
  have hs1 := hK1.size
  simp only [World.size_alloc] at hs1
  have XR := lay (((Bb.new (W := w) (b := w.heap.size) (t := 42) (cs := #[.int .i64 0, .slice none 0 0]) rfl).alloc _).kp hK1 (by omega))
  have B1 := lay (Kp.belowA (w := w) hK1 (((Below.refl w.heap.size w).alloc (Nat.le_refl _) _).alloc (by simp) _) (by omega))
  have C1 := lay hC1
  clear hK1 hC1
  cases v
  · go_wp2_with (fail)
    refine (any_any C1.out hl (by omega)).mono ?_
    rintro ee w4 ⟨m, m0, m6, D, cs, zs, rfl, hzl, hO4, hC4, hK4⟩
    have hs4 := hK4.size
    obtain ⟨L3, hL3⟩ : ∃ L, zs.length = L := ⟨_, rfl⟩
    have HL3 := lay hL3
    rw [hL3] at hO4 hzl ⊢
    have XR4 := lay (XR.out.kp hK4 (by omega))
    have B4 := lay (Kp.belowA (w := w) hK4 B1.out (by omega))
    have O4 := lay hO4.rdS
    clear hK4 hC4 hO4 hL3 XR B1 C1
    have R0 := XR4.out.c 0 rfl
    have R1 := XR4.out.c 1 rfl
    have Rf := XR4.out.f
    have Rl := XR4.out.lt
    go_wp2_with (fail)
    refine bodyPost_ret (v := circuitV m D L3 cs) (by first | (simp [results, Try.results21, go_sem, *]; done) | (simp (disch := (first | omega | (simp; done) | (simp; omega))) [results, Try.results21, go_sem, *]; done) | (simp only [results, Try.results21]; go_simp; done)) rfl (DiP.i HL3.out rfl (by omega) ?_ ?_)
    · obtain ⟨h1, h2⟩ := O4.out
      (repeat' (first | exact h1 | (refine Rd.far ?_ (fun a ha => by have h9 := h2 a ha; dsimp only; omega) _)))
    · have hB9 := B4.out
      have hB9s := hB9.size
      (repeat' (first | (with_reducible exact Below.refl _ _) | (with_reducible assumption) | (with_reducible refine Below.alloc ?_ ?_ _) | (with_reducible refine Below.drew ?_) | (with_reducible refine bdN ?_ _) | (with_reducible refine Below.setCell ?_ ?_ _) | (with_reducible refine chn ?_ (by assumption) ?_) | omega | (simp; done) | (simp; omega)))
  · go_wp2_with (fail)
    refine (pick_any 5 (by omega) (by omega) (C1.out.alloc _) hl (by omega)).mono ?_
    rintro ee w2 ⟨v0, rfl, p0, p1, hC2, hK2⟩
    have hs2 := hK2.size
    simp only [World.size_alloc] at hs2
    have XR2 := lay ((XR.out.alloc _).kp hK2 (by omega))
    have XO2 := lay ((Bb.new (W := w1) (b := w1.heap.size) (t := 42) (cs := #[.int .i64 1, .slice none 0 0]) rfl).kp hK2 (by omega))
    have B2 := lay (Kp.belowA (w := w) hK2 (B1.out.alloc (by omega) _) (by omega))
    have e1 : IntKind.i64.wrap (55 + v0) = 55 + v0 := IntWalk.i64_in _ (by omega)
    obtain ⟨K, hKv⟩ := Int.eq_ofNat_of_zero_le (a := 55 + v0) (by omega)
    have hK : K ≤ 59 := by omega
    rw [hKv] at e1
    clear hC2 hK2 XR B1 C1
    go_wp2_with (fail)
    go_loopg [5] K (fun r s1 wr => ∃ (j : Nat) (v : Value) (xs : List GateV), j + r = K ∧ s1 = .int .i64 (r : Int) ∧ Hid (Bb wr w.heap.size 42 #[.int .i64 0, .slice none 0 0]) ∧ Hid (Bb wr w1.heap.size 42 #[.int .i64 1, v]) ∧ Hid (Own gateE wr (w1.heap.size + 1) 81 v xs) ∧ Hid (xs.length = j) ∧ w1.heap.size + 1 ≤ wr.heap.size ∧ Hid (Below w.heap.size w wr))
    case atStart =>
      exact ⟨0, .slice none 0 0, [], by omega, by (try rw [hKv]); (try rw [e1]); rfl, XR2, XO2, lay (Own.nil _ _ _), lay rfl, by omega, B2⟩
    case round =>
      obtain ⟨j, v, xs, hj, rfl, XR3, XO3, HOw, HL, hsz, HB⟩ := hrel
      clear XR2 XO2 B2
      have R0 := XR3.out.c 0 rfl
      have R1 := XR3.out.c 1 rfl
      have Rf := XR3.out.f
      have Rl := XR3.out.lt
      have O0 := XO3.out.c 0 rfl
      have O1 := XO3.out.c 1 rfl
      have Of := XO3.out.f
      have Ol := XO3.out.lt
      cases gk with
      | zero =>
        obtain rfl : K = j := by omega
        obtain ⟨Bo, cq, rfl, -, -⟩ := HOw.out.form
        rw [HL.out] at O1
        have hOw := HOw.out.rdS
        have HO1 := lay hOw
        clear HOw hOw
        go_wp2_with (fail)
        refine bodyPost_ret (v := circuitV 1 Bo K cq) (by first | (simp [results, Try.results21, go_sem, *]; done) | (simp (disch := (first | omega | (simp; done) | (simp; omega))) [results, Try.results21, go_sem, *]; done) | (simp only [results, Try.results21]; go_simp; done)) rfl (DiP.i HL.out rfl hK ?_ ?_)
        · obtain ⟨h1, h2⟩ := HO1.out
          (repeat' (first | exact h1 | (refine Rd.far ?_ (fun a ha => by have h9 := h2 a ha; dsimp only; omega) _)))
        · have hB9 := HB.out
          have hB9s := hB9.size
          (repeat' (first | (with_reducible exact Below.refl _ _) | (with_reducible assumption) | (with_reducible refine Below.alloc ?_ ?_ _) | (with_reducible refine Below.drew ?_) | (with_reducible refine bdN ?_ _) | (with_reducible refine Below.setCell ?_ ?_ _) | (with_reducible refine chn ?_ (by assumption) ?_) | omega | (simp; done) | (simp; omega)))
      | succ r =>
        have r0 : (0 : Int) < ((r + 1 : Nat) : Int) := by omega
        have hvl := HOw.out.lt
        have nea : some (w.heap.size) ≠ v.ownBlock := fun e => by have := (hvl _ e.symm).1; omega
        have neo : some (w1.heap.size) ≠ v.ownBlock := fun e => by have := (hvl _ e.symm).1; omega
        have hmax : j + 1 ≤ maxLen := by unfold maxLen; omega
        have hby : (j + 1) * 24 ≤ 140737488355328 := by omega
        go_wp2_with (first | (at_builtin; refine wpList_app1 (E := gateE) rfl _ _ _ rfl (w1.heap.size + 1) 81 i0 _ 24 Try.underlying40 hi0 iz0 iz1 iz2 rfl _ _ j HL.out (by rfl) (HOw.out.alloc _) _ _ ⟨12, 0, 0⟩ #[.int .i64 12, .int .i64 0, .int .i64 0] rfl (by rfl) (heap_alloc_new _ _) hmax hby (by simp only [World.size_alloc]; omega) ?_; intro A2 cp2 w9 hO2 hG2 hat2; have HO9 := lay hO2; have HG9 := lay hG2; clear hO2 hG2 hat2; have hz2' := HG9.out.size; (try simp only [World.size_alloc] at hz2'); have Po := lay ((XO3.out.alloc _).grown HG9.out neo); have po0 := Po.out.c 0 rfl; have po1 := Po.out.c 1 rfl; have lpo := Po.out.lt; have fpo := Po.out.f))
        go_roundg r
        case measure => omega
        case rel =>
          refine ⟨j + 1, .slice A2 (j + 1) cp2, xs ++ [⟨12, 0, 0⟩], by omega, by go_num, ?_, ?_, ?_, ?_, by (try simp only [World.size_setCell]); omega, ?_⟩
          · show Bb _ _ _ _; exact ((XR3.out.alloc _).grown HG9.out nea).far (by omega)
          · show Bb _ _ _ _; exact Po.out.set rfl
          · show Own _ _ _ _ _ _; exact HO9.out.far (by show w1.heap.size < _; omega) _
          · show _ = _; rw [List.length_append, HL.out]; rfl
          · show Below _ _ _; exact (((HB.out).alloc (by omega) _).grown HG9.out (by (try simp only [World.size_alloc]); omega) (fun r hr => by have := (hvl _ hr).1; omega)).setCell (by show w.heap.size ≤ w1.heap.size; omega) _

end Go.Proofs.Ytdbnjoeanoiifaa
