/- TurnS, Tu -/
import Derived.Test.YtofclfgaekjonaaZq0
import Derived.Test.YtofclfgaekjonaaZq22
import Derived.Test.YtofclfgaekjonaaZq23
import Derived.Test.YtofclfgaekjonaaZq21
import Derived.Test.YtofclfgaekjonaaZq16
import Derived.Test.YtofclfgaekjonaaZq11
namespace Go.Proofs.Ytofclfgaekjonaa
open Go.RowKit RM
set_option linter.unusedVariables false
set_option linter.unusedSimpArgs false

end Go.Proofs.Ytofclfgaekjonaa
namespace Go.Proofs.Ytofclfgaekjonaa
open Go.RowKit RM
set_option linter.unusedVariables false
set_option linter.unusedSimpArgs false
attribute [local irreducible] World.setCell

def turn (m : Nat) (x : D5) : D5 :=
  match m with
  | 0 => ⟨x.a, x.b, x.c, x.d, x.e⟩
  | 1 => ⟨-x.d, x.a, x.b, x.c, x.e⟩
  | 2 => ⟨-x.c, -x.d, x.a, x.b, x.e⟩
  | 3 => ⟨-x.b, -x.c, -x.d, x.a, x.e⟩
  | 4 => ⟨-x.a, -x.b, -x.c, -x.d, x.e⟩
  | 5 => ⟨x.d, -x.a, -x.b, -x.c, x.e⟩
  | 6 => ⟨x.c, x.d, -x.a, -x.b, x.e⟩
  | _ => ⟨x.b, x.c, x.d, -x.a, x.e⟩
def omP (m : Nat) : D5 := turn m one5
theorem lt8 {m : Nat} (h : m < 8) : m = 0 ∨ m = 1 ∨ m = 2 ∨ m = 3 ∨ m = 4 ∨ m = 5 ∨ m = 6 ∨ m = 7 := by omega
theorem turn_e {m : Nat} {x : D5} : (turn m x).e = x.e := by unfold turn; split <;> rfl
theorem tm8 {k : Int} {m : Nat} (h : k % 8 = (m : Int)) (hm : m < 8) : -7 ≤ k.tmod 8 ∧ k.tmod 8 ≤ 7 ∧ (k.tmod 8 + 8) % 8 = (m : Int) ∧ (k.tmod 8 + 8).tmod 8 = (m : Int) := by
  have h1 : -7 ≤ k.tmod 8 ∧ k.tmod 8 ≤ 7 ∧ (k.tmod 8 + 8) % 8 = (m : Int) := by
    rcases Int.le_total 0 k with h0 | h0
    · rw [Int.tmod_eq_emod_of_nonneg h0]; omega
    · obtain ⟨n, rfl⟩ : ∃ n : Int, k = -n := ⟨-k, by omega⟩
      rw [Int.neg_tmod, Int.tmod_eq_emod_of_nonneg (by omega)]; omega
  refine ⟨h1.1, h1.2.1, h1.2.2, ?_⟩
  rw [Int.tmod_eq_emod_of_nonneg (by omega)]; exact h1.2.2
theorem omP_v {m : Nat} : (omP m).v = dy (turn m one5).a (turn m one5).b (turn m one5).c (turn m one5).d 0 := by
  show dy _ _ _ _ (turn m one5).e = _
  rw [turn_e]; rfl
theorem mo_i {a b c d e k : Int} {m : Nat} {w : World} (hm : m < 8) (h : k % 8 = (m : Int)) (g1 : -1000 ≤ k) (g2 : k ≤ 1000) (hx : vr a b c d = true) :
    Calls Try.prog 137 #[rg a b c d, .int .i64 k] w fun ee w' => ee = .returned (rt (turn m ⟨a, b, c, d, e⟩).a (turn m ⟨a, b, c, d, e⟩).b (turn m ⟨a, b, c, d, e⟩).c (turn m ⟨a, b, c, d, e⟩).d true) ∧ Below w.heap.size w w' := by
  obtain ⟨t1, t2, t3, t4⟩ := tm8 h hm
  rcases lt8 hm with rfl | rfl | rfl | rfl | rfl | rfl | rfl | rfl
  · exact omega_i_0 a b c d k w t1 t2 t3 t4 g1 g2 hx
  · exact omega_i_1 a b c d k w t1 t2 t3 t4 g1 g2 hx
  · exact omega_i_2 a b c d k w t1 t2 t3 t4 g1 g2 hx
  · exact omega_i_3 a b c d k w t1 t2 t3 t4 g1 g2 hx
  · exact omega_i_4 a b c d k w t1 t2 t3 t4 g1 g2 hx
  · exact omega_i_5 a b c d k w t1 t2 t3 t4 g1 g2 hx
  · exact omega_i_6 a b c d k w t1 t2 t3 t4 g1 g2 hx
  · exact omega_i_7 a b c d k w t1 t2 t3 t4 g1 g2 hx
theorem mo_1 {k : Int} {m : Nat} {w : World} (hm : m < 8) (h : k % 8 = (m : Int)) (g1 : -1000 ≤ k) (g2 : k ≤ 1000) :
    Calls Try.prog 137 #[rg 1 0 0 0, .int .i64 k] w fun ee w' => ee = .returned (rt (turn m one5).a (turn m one5).b (turn m one5).c (turn m one5).d true) ∧ Below w.heap.size w w' :=
  mo_i (e := 0) hm h g1 g2 (by decide)

set_option maxRecDepth 100000 in
set_option maxHeartbeats 2000000 in
theorem omp {k : Int} {m : Nat} {w : World} (hm : m < 8) (h : k % 8 = (m : Int)) (g1 : -1000 ≤ k) (g2 : k ≤ 1000) :
    Calls Try.prog 80 #[.int .i64 k] w fun ee w' => ee = .returned (omP m).v ∧ Below w.heap.size w w' := by
  rw [omP_v]
  have HM := hid hm
  have HH := hid h
  clear hm h
  go_enter Try.func80, Try.ntmps80
  go_wp2_with (fail)
  refine (mo_1 HM.out HH.out g1 g2).mono ?_
  rintro ee w1 ⟨rfl, hb1⟩
  obtain ⟨hc1, hf1, _⟩ := bcell hb1; have hz1 := hb1.size; (try simp at hz1); (try have hx10 : w.heap.size < w1.heap.size := (by omega)); (try have hx11 : w.heap.size + 1 < w1.heap.size := (by omega)); (try have hx12 : w.heap.size + 1 + 1 < w1.heap.size := (by omega)); (try have hx13 : w.heap.size + 1 + 1 + 1 < w1.heap.size := (by omega))
  go_wp2_with (fail)
  refine bodyPost_ret (v := dy (turn m one5).a (turn m one5).b (turn m one5).c (turn m one5).d 0) (by first | (simp [results, Try.results80, go_sem, *]; done) | (simp (disch := (first | omega | (simp; done) | (simp; omega))) [results, Try.results80, go_sem, *]; done) | (simp only [results, Try.results80]; go_simp; done)) rfl ⟨rfl, ?_⟩
  (repeat' (first | (with_reducible exact Below.refl _ _) | (with_reducible assumption) | (with_reducible refine Below.alloc ?_ ?_ _) | (with_reducible refine Below.drew ?_) | (with_reducible refine below_drewN ?_ _) | (with_reducible refine Below.setCell ?_ ?_ _) | (with_reducible refine chain ?_ (by assumption) ?_) | omega | (simp; done) | (simp; omega)))

end Go.Proofs.Ytofclfgaekjonaa
