/- Contracts of SubRing and of its model. -/
import Derived.Test.YtdgcanlbdneelaaProd
import Derived.Test.YtdgcanlbdneelaaHeld
import Derived.Deep.RegionWith
namespace Go.Proofs.Ytdgcanlbdneelaa
open Go.RowKit RM
set_option linter.unusedVariables false
set_option linter.unusedSimpArgs false

set_option maxRecDepth 100000 in
set_option maxHeartbeats 1000000 in
theorem la (a b c d p q r s : Int) (w : World) (hx : vr a b c d = true) (hy : vr p q r s = true) :
    Calls Try.prog 97 #[rg a b c d, rg p q r s] w fun e w' => e = .returned (rg (a + p) (b + q) (c + r) (d + s)) ∧ Below w.heap.size w w' := by
  obtain ⟨⟨a1, a2⟩, ⟨b1, b2⟩, ⟨c1, c2⟩, ⟨d1, d2⟩⟩ := vr_iff.1 hx
  obtain ⟨⟨p1, p2⟩, ⟨q1, q2⟩, ⟨r1, r2⟩, ⟨s1, s2⟩⟩ := vr_iff.1 hy
  have HX := hid hx
  clear hx
  have HY := hid hy
  clear hy
  go_enter Try.func97, Try.ntmps97
  go_wp2_with (first | go_in)
  refine bodyPost_ret (v := rg (a + p) (b + q) (c + r) (d + s)) (by first | (simp [results, Try.results97, go_sem, *]; done) | (simp (disch := (first | omega | (simp; done) | (simp; omega))) [results, Try.results97, go_sem, *]; done) | (simp only [results, Try.results97]; go_simp; done)) rfl ⟨rfl, ?_⟩
  repeat' (first | (with_reducible exact Below.refl _ _) | (with_reducible refine Below.alloc ?_ ?_ _) | (with_reducible refine Below.drew ?_) | (with_reducible refine Below.setCell ?_ ?_ _) | (with_reducible refine chain ?_ (by assumption) ?_) | omega | (simp; done) | (simp; omega))

theorem vr_neg {p q r s : Int} (h : vr p q r s = true) : vr (-p) (-q) (-r) (-s) = true := by
  rw [vr_iff] at *; omega
end Go.Proofs.Ytdgcanlbdneelaa
