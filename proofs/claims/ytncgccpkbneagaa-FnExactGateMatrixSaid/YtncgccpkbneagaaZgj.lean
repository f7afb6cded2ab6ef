/- Gj, Gs -/
import Derived.Test.YtncgccpkbneagaaGm
import Derived.Test.YtncgccpkbneagaaZte
import Derived.Test.YtncgccpkbneagaaZteb
import Derived.Test.YtncgccpkbneagaaZkt
import Derived.Test.YtncgccpkbneagaaZlg
import Derived.Test.YtncgccpkbneagaaZar
import Derived.Test.YtncgccpkbneagaaVm2
import Derived.Test.YtncgccpkbneagaaZtab
import Derived.Test.YtncgccpkbneagaaZls
namespace Go.Proofs.Ytncgccpkbneagaa
open Go.RowKit RM
set_option linter.unusedVariables false
set_option linter.unusedSimpArgs false
attribute [local irreducible] World.setCell

open GM
theorem cbT {α : Type} {a b : Nat} {x y : α} : (bif a.beq b then x else y) = if a = b then x else y := by
  cases h : a.beq b
  · rw [if_neg (fun e => by subst e; simp at h)]; rfl
  · rw [if_pos (Nat.eq_of_beq_eq_true h)]; rfl
theorem run_enter {P : Program} {f : FuncId} {fn : Func} (hf : P.funcs[f]? = some fn) (hn : (fn.name == "runtime.NumGoroutine") = false) (hb : fn.body.isNone = false) (az : Array Value) (W : World) : (callFunc f az).run P W = .ok (.enter f az) W := by
  have hn' : ¬ fn.name = "runtime.NumGoroutine" := by simpa using hn
  have hb' : ¬ fn.body = none := fun h => by rw [h] at hb; cases hb
  simp [callFunc, go_sem, hf, hn', hb']
/-- the matrix of a gate, cell by cell -/
def giF (n D kd A B q : Nat) : D5 := cellC (gI n kd A B (q / D) (q % D))
theorem en_applyX (az : Array Value) (W : World) : (callFunc 141 az).run Try.prog W = .ok (.enter 141 az) W := run_enter (fn := Try.f141) (by kernel_rfl) (by kernel_rfl) (by kernel_rfl) az W
theorem en_applyZ (az : Array Value) (W : World) : (callFunc 142 az).run Try.prog W = .ok (.enter 142 az) W := run_enter (fn := Try.f142) (by kernel_rfl) (by kernel_rfl) (by kernel_rfl) az W
theorem en_applyY (az : Array Value) (W : World) : (callFunc 143 az).run Try.prog W = .ok (.enter 143 az) W := run_enter (fn := Try.f143) (by kernel_rfl) (by kernel_rfl) (by kernel_rfl) az W
theorem en_applyS (az : Array Value) (W : World) : (callFunc 144 az).run Try.prog W = .ok (.enter 144 az) W := run_enter (fn := Try.f144) (by kernel_rfl) (by kernel_rfl) (by kernel_rfl) az W
theorem en_applySdg (az : Array Value) (W : World) : (callFunc 145 az).run Try.prog W = .ok (.enter 145 az) W := run_enter (fn := Try.f145) (by kernel_rfl) (by kernel_rfl) (by kernel_rfl) az W
theorem en_applyT (az : Array Value) (W : World) : (callFunc 146 az).run Try.prog W = .ok (.enter 146 az) W := run_enter (fn := Try.f146) (by kernel_rfl) (by kernel_rfl) (by kernel_rfl) az W
theorem en_applyTdg (az : Array Value) (W : World) : (callFunc 147 az).run Try.prog W = .ok (.enter 147 az) W := run_enter (fn := Try.f147) (by kernel_rfl) (by kernel_rfl) (by kernel_rfl) az W
theorem en_applyCX (az : Array Value) (W : World) : (callFunc 148 az).run Try.prog W = .ok (.enter 148 az) W := run_enter (fn := Try.f148) (by kernel_rfl) (by kernel_rfl) (by kernel_rfl) az W
theorem en_applyCZ (az : Array Value) (W : World) : (callFunc 149 az).run Try.prog W = .ok (.enter 149 az) W := run_enter (fn := Try.f149) (by kernel_rfl) (by kernel_rfl) (by kernel_rfl) az W
theorem en_applySwap (az : Array Value) (W : World) : (callFunc 150 az).run Try.prog W = .ok (.enter 150 az) W := run_enter (fn := Try.f150) (by kernel_rfl) (by kernel_rfl) (by kernel_rfl) az W
theorem en_applyW (az : Array Value) (W : World) : (callFunc 151 az).run Try.prog W = .ok (.enter 151 az) W := run_enter (fn := Try.f151) (by kernel_rfl) (by kernel_rfl) (by kernel_rfl) az W

set_option maxRecDepth 100000 in
set_option maxHeartbeats 2000000 in
theorem gm1 {n D NN kd A B : Nat} {Kf : FuncId} {ph : Nat → Int} {w : World} (hv : C4.vgB (n : Int) ⟨(kd : Int), (A : Int), (B : Int)⟩ = true) (h1 : 1 ≤ n) (h5 : n ≤ 5) (hD : D = 2 ^ n) (hNN : NN = D * D)
    (hT : ∀ W : World, Calls Try.prog 97 #[.int .i64 (kd : Int)] W fun ee w' => ∃ g : Nat, ee = .returned (.slice (some ⟨g, 0, none⟩) 1 1) ∧ Bx w' g 117 #[.func (.func Kf) #[] #[]] ∧ W.heap.size ≤ g ∧ Below W.heap.size W w')
    (hF : ∀ c (W : World), c < D → Calls Try.prog Kf #[.agg #[.int .i64 (n : Int), .int .i64 (c : Int), .int .i64 0], .agg #[.int .i64 (kd : Int), .int .i64 (A : Int), .int .i64 (B : Int)]] W fun ee w' => ee = .returned (.agg #[.int .i64 (n : Int), .int .i64 (((act n kd A B c).1 : Nat) : Int), .int .i64 (ph c)]) ∧ Below W.heap.size W w')
    (hEn : ∀ (az : Array Value) (W : World), (callFunc Kf az).run Try.prog W = .ok (.enter Kf az) W)
    (hFD : ∀ c, c < D → (act n kd A B c).1 < D)
    (hP : ∀ c, c < D → -1000 ≤ ph c ∧ ph c ≤ 1000 ∧ ph c % 8 = (((act n kd A B c).2 : Nat) : Int) ∧ (act n kd A B c).2 < 8)
    (hg : ∀ r c, gI n kd A B r c = bif r.beq (act n kd A B c).1 then 1 + (act n kd A B c).2 % 8 else 0) :
    Calls Try.prog 43 #[.int .i64 (n : Int), .agg #[.int .i64 (kd : Int), .int .i64 (A : Int), .int .i64 (B : Int)]] w fun ee w' => ∃ g : Nat, ee = .returned (mt (D : Int) (D : Int) (some ⟨g, 0, none⟩) NN NN true) ∧ Bk w' g 37 (tab NN (giF n D kd A B)) ∧ w.heap.size ≤ g ∧ Below w.heap.size w w' := by
  have z0 : ∀ t, t < 1 → t = 0 := by omega
  refine (gm_i (L := 1) (e := 0) (F := fun _ c => (act n kd A B c).1) (M := fun _ c => (act n kd A B c).2) (P := fun _ c => ph c) (Kf := fun _ => Kf) (cs := #[.func (.func Kf) #[] #[]]) hv h1 h5 hD hNN rfl (by decide) hT (fun t ht => by rw [z0 t ht]; rfl) (fun t c W _ hc => hF c W hc) (fun t az W _ => hEn az W) (fun t c _ hc => hFD c hc) (fun t c _ hc => hP c hc)).mono fun ee w' ⟨g, he, hk, hgg, hb⟩ => ⟨g, he, ?_, hgg, hb⟩
  have e : tab NN (gP (fun _ c => (act n kd A B c).1) (fun _ c => (act n kd A B c).2) 0 D 1 D 0) = tab NN (giF n D kd A B) := by
    have d0 : 0 < D := by rw [hD]; exact Nat.two_pow_pos n
    rw [gP_all d0]
    refine tab_congr (fun q hq => ?_)
    have hc : q % D < D := Nat.mod_lt _ d0
    obtain ⟨_, _, _, h8⟩ := hP _ hc
    unfold giF
    rw [hg, cbT]
    show (if q / D = (act n kd A B (q % D)).1 then cellD _ 0 else z5) = _
    by_cases h : q / D = (act n kd A B (q % D)).1
    · rw [if_pos h, if_pos h, Nat.mod_eq_of_lt h8]
      exact (cellC_at (e := 0) h8).symm
    · rw [if_neg h, if_neg h]; rfl
  rw [← e]; exact hk

set_option maxRecDepth 100000 in
set_option maxHeartbeats 2000000 in
theorem gmk_2 {n D NN A B : Nat} {w : World} (hv : C4.vgB (n : Int) ⟨((2 : Nat) : Int), (A : Int), (B : Int)⟩ = true) (h1 : 1 ≤ n) (h5 : n ≤ 5) (hD : D = 2 ^ n) (hNN : NN = D * D) (hA : A < n) :
    Calls Try.prog 43 #[.int .i64 (n : Int), .agg #[.int .i64 ((2 : Nat) : Int), .int .i64 (A : Int), .int .i64 (B : Int)]] w fun ee w' => ∃ g : Nat, ee = .returned (mt (D : Int) (D : Int) (some ⟨g, 0, none⟩) NN NN true) ∧ Bk w' g 37 (tab NN (giF n D 2 A B)) ∧ w.heap.size ≤ g ∧ Below w.heap.size w w' := by
  refine gm1 (Kf := 141) (ph := fun c => 0) hv h1 h5 hD hNN (fun W => te_2) ?_ en_applyX ?_ ?_ ?_
  · intro c W hc
    rw [hD] at hc
    exact kapplyX h5 hA hc (by decide) (by decide)
  · intro c hc
    rw [hD] at hc ⊢
    exact flip_lt hc hA
  · intro c hc
    show -1000 ≤ (0 : Int) ∧ (0 : Int) ≤ 1000 ∧ (0 : Int) % 8 = ((0 : Nat) : Int) ∧ (0 : Nat) < 8
    decide
  · intro r c; rfl

set_option maxRecDepth 100000 in
set_option maxHeartbeats 2000000 in
theorem gmk_3 {n D NN A B : Nat} {w : World} (hv : C4.vgB (n : Int) ⟨((3 : Nat) : Int), (A : Int), (B : Int)⟩ = true) (h1 : 1 ≤ n) (h5 : n ≤ 5) (hD : D = 2 ^ n) (hNN : NN = D * D) (hA : A < n) :
    Calls Try.prog 43 #[.int .i64 (n : Int), .agg #[.int .i64 ((3 : Nat) : Int), .int .i64 (A : Int), .int .i64 (B : Int)]] w fun ee w' => ∃ g : Nat, ee = .returned (mt (D : Int) (D : Int) (some ⟨g, 0, none⟩) NN NN true) ∧ Bk w' g 37 (tab NN (giF n D 3 A B)) ∧ w.heap.size ≤ g ∧ Below w.heap.size w w' := by
  refine gm1 (Kf := 143) (ph := fun c => 0 + 4 * ((bitI n c A : Nat) : Int) + 2) hv h1 h5 hD hNN (fun W => te_3) ?_ en_applyY ?_ ?_ ?_
  · intro c W hc
    rw [hD] at hc
    exact kapplyY h5 hA hc (by decide) (by decide)
  · intro c hc
    rw [hD] at hc ⊢
    exact flip_lt hc hA
  · intro c hc
    show -1000 ≤ (0 + 4 * ((bitI n c A : Nat) : Int) + 2 : Int) ∧ (0 + 4 * ((bitI n c A : Nat) : Int) + 2 : Int) ≤ 1000 ∧ (0 + 4 * ((bitI n c A : Nat) : Int) + 2 : Int) % 8 = ((4 * bitI n c A + 2 : Nat) : Int) ∧ 4 * bitI n c A + 2 < 8
    rcases bitI_01 (n := n) (c := c) (q := A) with h | h <;> rw [h] <;> exact ⟨by decide, by decide, by decide, by decide⟩
  · intro r c; rfl

set_option maxRecDepth 100000 in
set_option maxHeartbeats 2000000 in
theorem gmk_4 {n D NN A B : Nat} {w : World} (hv : C4.vgB (n : Int) ⟨((4 : Nat) : Int), (A : Int), (B : Int)⟩ = true) (h1 : 1 ≤ n) (h5 : n ≤ 5) (hD : D = 2 ^ n) (hNN : NN = D * D) (hA : A < n) :
    Calls Try.prog 43 #[.int .i64 (n : Int), .agg #[.int .i64 ((4 : Nat) : Int), .int .i64 (A : Int), .int .i64 (B : Int)]] w fun ee w' => ∃ g : Nat, ee = .returned (mt (D : Int) (D : Int) (some ⟨g, 0, none⟩) NN NN true) ∧ Bk w' g 37 (tab NN (giF n D 4 A B)) ∧ w.heap.size ≤ g ∧ Below w.heap.size w w' := by
  refine gm1 (Kf := 142) (ph := fun c => 0 + 4 * ((bitI n c A : Nat) : Int)) hv h1 h5 hD hNN (fun W => te_4) ?_ en_applyZ ?_ ?_ ?_
  · intro c W hc
    rw [hD] at hc
    exact kapplyZ h5 hA hc (by decide) (by decide)
  · intro c hc
    rw [hD] at hc ⊢
    exact hc
  · intro c hc
    show -1000 ≤ (0 + 4 * ((bitI n c A : Nat) : Int) : Int) ∧ (0 + 4 * ((bitI n c A : Nat) : Int) : Int) ≤ 1000 ∧ (0 + 4 * ((bitI n c A : Nat) : Int) : Int) % 8 = ((4 * bitI n c A : Nat) : Int) ∧ 4 * bitI n c A < 8
    rcases bitI_01 (n := n) (c := c) (q := A) with h | h <;> rw [h] <;> exact ⟨by decide, by decide, by decide, by decide⟩
  · intro r c; rfl

set_option maxRecDepth 100000 in
set_option maxHeartbeats 2000000 in
theorem gmk_5 {n D NN A B : Nat} {w : World} (hv : C4.vgB (n : Int) ⟨((5 : Nat) : Int), (A : Int), (B : Int)⟩ = true) (h1 : 1 ≤ n) (h5 : n ≤ 5) (hD : D = 2 ^ n) (hNN : NN = D * D) (hA : A < n) :
    Calls Try.prog 43 #[.int .i64 (n : Int), .agg #[.int .i64 ((5 : Nat) : Int), .int .i64 (A : Int), .int .i64 (B : Int)]] w fun ee w' => ∃ g : Nat, ee = .returned (mt (D : Int) (D : Int) (some ⟨g, 0, none⟩) NN NN true) ∧ Bk w' g 37 (tab NN (giF n D 5 A B)) ∧ w.heap.size ≤ g ∧ Below w.heap.size w w' := by
  refine gm1 (Kf := 144) (ph := fun c => 0 + 2 * ((bitI n c A : Nat) : Int)) hv h1 h5 hD hNN (fun W => te_5) ?_ en_applyS ?_ ?_ ?_
  · intro c W hc
    rw [hD] at hc
    exact kapplyS h5 hA hc (by decide) (by decide)
  · intro c hc
    rw [hD] at hc ⊢
    exact hc
  · intro c hc
    show -1000 ≤ (0 + 2 * ((bitI n c A : Nat) : Int) : Int) ∧ (0 + 2 * ((bitI n c A : Nat) : Int) : Int) ≤ 1000 ∧ (0 + 2 * ((bitI n c A : Nat) : Int) : Int) % 8 = ((2 * bitI n c A : Nat) : Int) ∧ 2 * bitI n c A < 8
    rcases bitI_01 (n := n) (c := c) (q := A) with h | h <;> rw [h] <;> exact ⟨by decide, by decide, by decide, by decide⟩
  · intro r c; rfl

set_option maxRecDepth 100000 in
set_option maxHeartbeats 2000000 in
theorem gmk_6 {n D NN A B : Nat} {w : World} (hv : C4.vgB (n : Int) ⟨((6 : Nat) : Int), (A : Int), (B : Int)⟩ = true) (h1 : 1 ≤ n) (h5 : n ≤ 5) (hD : D = 2 ^ n) (hNN : NN = D * D) (hA : A < n) :
    Calls Try.prog 43 #[.int .i64 (n : Int), .agg #[.int .i64 ((6 : Nat) : Int), .int .i64 (A : Int), .int .i64 (B : Int)]] w fun ee w' => ∃ g : Nat, ee = .returned (mt (D : Int) (D : Int) (some ⟨g, 0, none⟩) NN NN true) ∧ Bk w' g 37 (tab NN (giF n D 6 A B)) ∧ w.heap.size ≤ g ∧ Below w.heap.size w w' := by
  refine gm1 (Kf := 145) (ph := fun c => 0 + -2 * ((bitI n c A : Nat) : Int)) hv h1 h5 hD hNN (fun W => te_6) ?_ en_applySdg ?_ ?_ ?_
  · intro c W hc
    rw [hD] at hc
    exact kapplySdg h5 hA hc (by decide) (by decide)
  · intro c hc
    rw [hD] at hc ⊢
    exact hc
  · intro c hc
    show -1000 ≤ (0 + -2 * ((bitI n c A : Nat) : Int) : Int) ∧ (0 + -2 * ((bitI n c A : Nat) : Int) : Int) ≤ 1000 ∧ (0 + -2 * ((bitI n c A : Nat) : Int) : Int) % 8 = (((8 - 2 * bitI n c A) % 8 : Nat) : Int) ∧ (8 - 2 * bitI n c A) % 8 < 8
    rcases bitI_01 (n := n) (c := c) (q := A) with h | h <;> rw [h] <;> exact ⟨by decide, by decide, by decide, by decide⟩
  · intro r c; rfl

set_option maxRecDepth 100000 in
set_option maxHeartbeats 2000000 in
theorem gmk_7 {n D NN A B : Nat} {w : World} (hv : C4.vgB (n : Int) ⟨((7 : Nat) : Int), (A : Int), (B : Int)⟩ = true) (h1 : 1 ≤ n) (h5 : n ≤ 5) (hD : D = 2 ^ n) (hNN : NN = D * D) (hA : A < n) :
    Calls Try.prog 43 #[.int .i64 (n : Int), .agg #[.int .i64 ((7 : Nat) : Int), .int .i64 (A : Int), .int .i64 (B : Int)]] w fun ee w' => ∃ g : Nat, ee = .returned (mt (D : Int) (D : Int) (some ⟨g, 0, none⟩) NN NN true) ∧ Bk w' g 37 (tab NN (giF n D 7 A B)) ∧ w.heap.size ≤ g ∧ Below w.heap.size w w' := by
  refine gm1 (Kf := 146) (ph := fun c => 0 + ((bitI n c A : Nat) : Int)) hv h1 h5 hD hNN (fun W => te_7) ?_ en_applyT ?_ ?_ ?_
  · intro c W hc
    rw [hD] at hc
    exact kapplyT h5 hA hc (by decide) (by decide)
  · intro c hc
    rw [hD] at hc ⊢
    exact hc
  · intro c hc
    show -1000 ≤ (0 + ((bitI n c A : Nat) : Int) : Int) ∧ (0 + ((bitI n c A : Nat) : Int) : Int) ≤ 1000 ∧ (0 + ((bitI n c A : Nat) : Int) : Int) % 8 = ((bitI n c A : Nat) : Int) ∧ bitI n c A < 8
    rcases bitI_01 (n := n) (c := c) (q := A) with h | h <;> rw [h] <;> exact ⟨by decide, by decide, by decide, by decide⟩
  · intro r c; rfl

set_option maxRecDepth 100000 in
set_option maxHeartbeats 2000000 in
theorem gmk_8 {n D NN A B : Nat} {w : World} (hv : C4.vgB (n : Int) ⟨((8 : Nat) : Int), (A : Int), (B : Int)⟩ = true) (h1 : 1 ≤ n) (h5 : n ≤ 5) (hD : D = 2 ^ n) (hNN : NN = D * D) (hA : A < n) :
    Calls Try.prog 43 #[.int .i64 (n : Int), .agg #[.int .i64 ((8 : Nat) : Int), .int .i64 (A : Int), .int .i64 (B : Int)]] w fun ee w' => ∃ g : Nat, ee = .returned (mt (D : Int) (D : Int) (some ⟨g, 0, none⟩) NN NN true) ∧ Bk w' g 37 (tab NN (giF n D 8 A B)) ∧ w.heap.size ≤ g ∧ Below w.heap.size w w' := by
  refine gm1 (Kf := 147) (ph := fun c => 0 + -((bitI n c A : Nat) : Int)) hv h1 h5 hD hNN (fun W => te_8) ?_ en_applyTdg ?_ ?_ ?_
  · intro c W hc
    rw [hD] at hc
    exact kapplyTdg h5 hA hc (by decide) (by decide)
  · intro c hc
    rw [hD] at hc ⊢
    exact hc
  · intro c hc
    show -1000 ≤ (0 + -((bitI n c A : Nat) : Int) : Int) ∧ (0 + -((bitI n c A : Nat) : Int) : Int) ≤ 1000 ∧ (0 + -((bitI n c A : Nat) : Int) : Int) % 8 = (((8 - bitI n c A) % 8 : Nat) : Int) ∧ (8 - bitI n c A) % 8 < 8
    rcases bitI_01 (n := n) (c := c) (q := A) with h | h <;> rw [h] <;> exact ⟨by decide, by decide, by decide, by decide⟩
  · intro r c; rfl

set_option maxRecDepth 100000 in
set_option maxHeartbeats 2000000 in
theorem gmk_9 {n D NN A B : Nat} {w : World} (hv : C4.vgB (n : Int) ⟨((9 : Nat) : Int), (A : Int), (B : Int)⟩ = true) (h1 : 1 ≤ n) (h5 : n ≤ 5) (hD : D = 2 ^ n) (hNN : NN = D * D) (hA : A < n) (hB : B < n) :
    Calls Try.prog 43 #[.int .i64 (n : Int), .agg #[.int .i64 ((9 : Nat) : Int), .int .i64 (A : Int), .int .i64 (B : Int)]] w fun ee w' => ∃ g : Nat, ee = .returned (mt (D : Int) (D : Int) (some ⟨g, 0, none⟩) NN NN true) ∧ Bk w' g 37 (tab NN (giF n D 9 A B)) ∧ w.heap.size ≤ g ∧ Below w.heap.size w w' := by
  refine gm1 (Kf := 148) (ph := fun c => 0) hv h1 h5 hD hNN (fun W => te_9) ?_ en_applyCX ?_ ?_ ?_
  · intro c W hc
    rw [hD] at hc
    show Calls _ _ _ _ fun ee w' => ee = .returned (.agg #[.int .i64 (n : Int), .int .i64 (((bif (bitI n c A).beq 0 then c else c ^^^ msk n B) : Nat) : Int), .int .i64 0]) ∧ _
    rcases bitI_01 (n := n) (c := c) (q := A) with h | h
    · rw [h]; exact kapplyCX_0 h5 hA hB h hc (by decide) (by decide)
    · rw [h]; exact kapplyCX_1 h5 hA hB h hc (by decide) (by decide)
  · intro c hc
    rw [hD] at hc ⊢
    show (bif (bitI n c A).beq 0 then c else c ^^^ msk n B) < _
    rw [cbT]; split
    · exact hc
    · exact flip_lt hc hB
  · intro c hc
    show -1000 ≤ (0 : Int) ∧ (0 : Int) ≤ 1000 ∧ (0 : Int) % 8 = ((0 : Nat) : Int) ∧ (0 : Nat) < 8
    decide
  · intro r c; rfl

set_option maxRecDepth 100000 in
set_option maxHeartbeats 2000000 in
theorem gmk_10 {n D NN A B : Nat} {w : World} (hv : C4.vgB (n : Int) ⟨((10 : Nat) : Int), (A : Int), (B : Int)⟩ = true) (h1 : 1 ≤ n) (h5 : n ≤ 5) (hD : D = 2 ^ n) (hNN : NN = D * D) (hA : A < n) (hB : B < n) :
    Calls Try.prog 43 #[.int .i64 (n : Int), .agg #[.int .i64 ((10 : Nat) : Int), .int .i64 (A : Int), .int .i64 (B : Int)]] w fun ee w' => ∃ g : Nat, ee = .returned (mt (D : Int) (D : Int) (some ⟨g, 0, none⟩) NN NN true) ∧ Bk w' g 37 (tab NN (giF n D 10 A B)) ∧ w.heap.size ≤ g ∧ Below w.heap.size w w' := by
  refine gm1 (Kf := 149) (ph := fun c => 0 + ((4 * bitI n c A * bitI n c B : Nat) : Int)) hv h1 h5 hD hNN (fun W => te_10) ?_ en_applyCZ ?_ ?_ ?_
  · intro c W hc
    rw [hD] at hc
    exact kapplyCZ h5 hA hB hc (by decide) (by decide)
  · intro c hc
    rw [hD] at hc ⊢
    exact hc
  · intro c hc
    show -1000 ≤ (0 + ((4 * bitI n c A * bitI n c B : Nat) : Int) : Int) ∧ _ ∧ (0 + ((4 * bitI n c A * bitI n c B : Nat) : Int) : Int) % 8 = ((4 * bitI n c A * bitI n c B : Nat) : Int) ∧ 4 * bitI n c A * bitI n c B < 8
    rcases bitI_01 (n := n) (c := c) (q := A) with h | h <;> rcases bitI_01 (n := n) (c := c) (q := B) with h' | h' <;> rw [h, h'] <;> exact ⟨by decide, by decide, by decide, by decide⟩
  · intro r c; rfl

set_option maxRecDepth 100000 in
set_option maxHeartbeats 2000000 in
theorem gmk_11 {n D NN A B : Nat} {w : World} (hv : C4.vgB (n : Int) ⟨((11 : Nat) : Int), (A : Int), (B : Int)⟩ = true) (h1 : 1 ≤ n) (h5 : n ≤ 5) (hD : D = 2 ^ n) (hNN : NN = D * D) (hA : A < n) (hB : B < n) :
    Calls Try.prog 43 #[.int .i64 (n : Int), .agg #[.int .i64 ((11 : Nat) : Int), .int .i64 (A : Int), .int .i64 (B : Int)]] w fun ee w' => ∃ g : Nat, ee = .returned (mt (D : Int) (D : Int) (some ⟨g, 0, none⟩) NN NN true) ∧ Bk w' g 37 (tab NN (giF n D 11 A B)) ∧ w.heap.size ≤ g ∧ Below w.heap.size w w' := by
  refine gm1 (Kf := 150) (ph := fun c => 0) hv h1 h5 hD hNN (fun W => te_11) ?_ en_applySwap ?_ ?_ ?_
  · intro c W hc
    rw [hD] at hc
    show Calls _ _ _ _ fun ee w' => ee = .returned (.agg #[.int .i64 (n : Int), .int .i64 (((bif (bitI n c A).beq (bitI n c B) then c else c ^^^ msk n A ^^^ msk n B) : Nat) : Int), .int .i64 0]) ∧ _
    rw [cbT]
    by_cases h : bitI n c A = bitI n c B
    · rw [if_pos h]; exact kapplySwap_e h5 hA hB h hc (by decide) (by decide)
    · rw [if_neg h]; exact kapplySwap_n h5 hA hB h hc (by decide) (by decide)
  · intro c hc
    rw [hD] at hc ⊢
    show (bif (bitI n c A).beq (bitI n c B) then c else c ^^^ msk n A ^^^ msk n B) < _
    rw [cbT]; split
    · exact hc
    · exact flip_lt (flip_lt hc hA) hB
  · intro c hc
    show -1000 ≤ (0 : Int) ∧ (0 : Int) ≤ 1000 ∧ (0 : Int) % 8 = ((0 : Nat) : Int) ∧ (0 : Nat) < 8
    decide
  · intro r c; rfl

set_option maxRecDepth 100000 in
set_option maxHeartbeats 2000000 in
theorem gmk_12 {n D NN A B : Nat} {w : World} (hv : C4.vgB (n : Int) ⟨((12 : Nat) : Int), (A : Int), (B : Int)⟩ = true) (h1 : 1 ≤ n) (h5 : n ≤ 5) (hD : D = 2 ^ n) (hNN : NN = D * D) (hA : A < n) :
    Calls Try.prog 43 #[.int .i64 (n : Int), .agg #[.int .i64 ((12 : Nat) : Int), .int .i64 (A : Int), .int .i64 (B : Int)]] w fun ee w' => ∃ g : Nat, ee = .returned (mt (D : Int) (D : Int) (some ⟨g, 0, none⟩) NN NN true) ∧ Bk w' g 37 (tab NN (giF n D 12 A B)) ∧ w.heap.size ≤ g ∧ Below w.heap.size w w' := by
  refine gm1 (Kf := 151) (ph := fun c => 0 + 1) hv h1 h5 hD hNN (fun W => te_12) ?_ en_applyW ?_ ?_ ?_
  · intro c W hc
    rw [hD] at hc
    exact kapplyW h5 hA hc (by decide) (by decide)
  · intro c hc
    rw [hD] at hc ⊢
    exact hc
  · intro c hc
    show -1000 ≤ (0 + 1 : Int) ∧ (0 + 1 : Int) ≤ 1000 ∧ (0 + 1 : Int) % 8 = ((1 : Nat) : Int) ∧ (1 : Nat) < 8
    decide
  · intro r c; rfl

set_option maxRecDepth 100000 in
set_option maxHeartbeats 2000000 in
theorem gmk_1 {n D NN A B : Nat} {w : World} (hv : C4.vgB (n : Int) ⟨((1 : Nat) : Int), (A : Int), (B : Int)⟩ = true) (h1 : 1 ≤ n) (h5 : n ≤ 5) (hD : D = 2 ^ n) (hNN : NN = D * D) (hA : A < n) :
    Calls Try.prog 43 #[.int .i64 (n : Int), .agg #[.int .i64 ((1 : Nat) : Int), .int .i64 (A : Int), .int .i64 (B : Int)]] w fun ee w' => ∃ g : Nat, ee = .returned (mt (D : Int) (D : Int) (some ⟨g, 0, none⟩) NN NN true) ∧ Bk w' g 37 (tab NN (giF n D 1 A B)) ∧ w.heap.size ≤ g ∧ Below w.heap.size w w' := by
  have z01 : ∀ t, t < 2 → t = 0 ∨ t = 1 := by omega
  refine (gm_i (L := 2) (e := 1) (F := fun t c => if t = 0 then c ^^^ msk n A else c) (M := fun t c => if t = 0 then 0 else 4 * bitI n c A) (P := fun t c => if t = 0 then 0 else 0 + 4 * ((bitI n c A : Nat) : Int)) (Kf := fun t => if t = 0 then 141 else 142) (cs := #[.func (.func 141) #[] #[], .func (.func 142) #[] #[]]) hv h1 h5 hD hNN rfl (by decide) (fun W => te_1) ?_ ?_ ?_ ?_ ?_).mono fun ee w' ⟨g, he, hk, hgg, hb⟩ => ⟨g, he, ?_, hgg, hb⟩
  · intro t ht
    rcases z01 t ht with rfl | rfl <;> rfl
  · intro t c W ht hc
    rw [hD] at hc
    rcases z01 t ht with rfl | rfl
    · exact kapplyX h5 hA hc (by decide) (by decide)
    · exact kapplyZ h5 hA hc (by decide) (by decide)
  · intro t az W ht
    rcases z01 t ht with rfl | rfl
    · exact en_applyX az W
    · exact en_applyZ az W
  · intro t c ht hc
    rw [hD] at hc ⊢
    rcases z01 t ht with rfl | rfl
    · exact flip_lt hc hA
    · exact hc
  · intro t c ht hc
    rcases z01 t ht with rfl | rfl
    · show -1000 ≤ (0 : Int) ∧ (0 : Int) ≤ 1000 ∧ (0 : Int) % 8 = ((0 : Nat) : Int) ∧ (0 : Nat) < 8
      decide
    · show -1000 ≤ (0 + 4 * ((bitI n c A : Nat) : Int)) ∧ (0 + 4 * ((bitI n c A : Nat) : Int)) ≤ 1000 ∧ (0 + 4 * ((bitI n c A : Nat) : Int)) % 8 = ((4 * bitI n c A : Nat) : Int) ∧ 4 * bitI n c A < 8
      rcases bitI_01 (n := n) (c := c) (q := A) with h | h <;> rw [h] <;> exact ⟨by decide, by decide, by decide, by decide⟩
  have d0 : 0 < D := by rw [hD]; exact Nat.two_pow_pos n
  rw [gP_all d0] at hk
  refine Eq.mp (congrArg (Bk w' g 37) (tab_congr (fun q hq => ?_))) hk
  show (if q / D = q % D then cellD (4 * bitI n (q % D) A) 1 else if q / D = (q % D) ^^^ msk n A then cellD 0 1 else z5) = cellC (bif (q / D).beq (q % D) then 9 + 4 * bitI n (q % D) A else bif (q / D).beq ((q % D) ^^^ msk n A) then 9 else 0)
  rw [cbT, cbT]
  by_cases h : q / D = q % D
  · rw [if_pos h, if_pos h]
    rcases bitI_01 (n := n) (c := q % D) (q := A) with h2 | h2 <;> rw [h2]
    · exact (cellC_at (m := 0) (e := 1) (by decide)).symm
    · exact (cellC_at (m := 4) (e := 1) (by decide)).symm
  · rw [if_neg h, if_neg h]
    by_cases h2 : q / D = (q % D) ^^^ msk n A
    · rw [if_pos h2, if_pos h2]; exact (cellC_at (m := 0) (e := 1) (by decide)).symm
    · rw [if_neg h2, if_neg h2]; rfl

theorem gm_any {n D NN kd A B : Nat} {w : World} (hok : okG n kd A B) (hv : C4.vgB (n : Int) ⟨(kd : Int), (A : Int), (B : Int)⟩ = true) (hD : D = 2 ^ n) (hNN : NN = D * D) :
    Calls Try.prog 43 #[.int .i64 (n : Int), .agg #[.int .i64 (kd : Int), .int .i64 (A : Int), .int .i64 (B : Int)]] w fun ee w' => ∃ g : Nat, ee = .returned (mt (D : Int) (D : Int) (some ⟨g, 0, none⟩) NN NN true) ∧ Bk w' g 37 (tab NN (gsF n D kd A B)) ∧ w.heap.size ≤ g ∧ Below w.heap.size w w' := by
  have e : tab NN (gsF n D kd A B) = tab NN (giF n D kd A B) := by
    have d0 : 0 < D := by rw [hD]; exact Nat.two_pow_pos n
    refine tab_congr (fun q hq => ?_)
    unfold gsF giF
    rw [gI_gS hok (by rw [← hD]; exact Nat.div_lt_of_lt_mul (by rw [← hNN]; exact hq)) (by rw [← hD]; exact Nat.mod_lt _ d0)]
  rw [e]
  obtain ⟨h1, h5, h3⟩ := hok
  rcases h3 with ⟨k1, k8, hA, hB⟩ | ⟨k9, k11, hA, hB, hne⟩ | ⟨rfl, hA, hB⟩
  · have : kd = 1 ∨ kd = 2 ∨ kd = 3 ∨ kd = 4 ∨ kd = 5 ∨ kd = 6 ∨ kd = 7 ∨ kd = 8 := by omega
    rcases this with rfl | rfl | rfl | rfl | rfl | rfl | rfl | rfl
    · exact gmk_1 hv h1 h5 hD hNN hA
    · exact gmk_2 hv h1 h5 hD hNN hA
    · exact gmk_3 hv h1 h5 hD hNN hA
    · exact gmk_4 hv h1 h5 hD hNN hA
    · exact gmk_5 hv h1 h5 hD hNN hA
    · exact gmk_6 hv h1 h5 hD hNN hA
    · exact gmk_7 hv h1 h5 hD hNN hA
    · exact gmk_8 hv h1 h5 hD hNN hA
  · have : kd = 9 ∨ kd = 10 ∨ kd = 11 := by omega
    rcases this with rfl | rfl | rfl
    · exact gmk_9 hv h1 h5 hD hNN hA hB
    · exact gmk_10 hv h1 h5 hD hNN hA hB
    · exact gmk_11 hv h1 h5 hD hNN hA hB
  · exact gmk_12 hv h1 h5 hD hNN (by omega)
end Go.Proofs.Ytncgccpkbneagaa
namespace Go.Proofs.Ytncgccpkbneagaa
open Go.RowKit RM
set_option linter.unusedVariables false
set_option linter.unusedSimpArgs false
attribute [local irreducible] World.setCell

open GM
theorem vg_ok {n : Int} {g : C4.GateV} (h : C4.vgB n g = true) : ∃ m kd A B : Nat, n = (m : Int) ∧ g = ⟨(kd : Int), (A : Int), (B : Int)⟩ ∧ okG m kd A B := by
  unfold C4.vgB at h
  rw [Bool.and_eq_true, C4.inB_iff] at h
  obtain ⟨⟨n1, n5⟩, hg⟩ := h
  obtain ⟨k, a, b⟩ := g
  cases h8 : C4.inB k 1 8
  · cases h11 : C4.inB k 9 11
    · rw [C4.gB_12 h8 h11, Bool.and_eq_true, Bool.and_eq_true, decide_eq_true_eq, decide_eq_true_eq, decide_eq_true_eq] at hg
      obtain ⟨⟨h1, h2⟩, h3⟩ := hg
      dsimp only at h1 h2 h3
      refine ⟨n.toNat, 12, 0, 0, by omega, ?_, by omega, by omega, Or.inr (Or.inr ⟨rfl, rfl, rfl⟩)⟩
      rw [h1, h2, h3]; rfl
    · rw [C4.gB_11 h11, Bool.and_eq_true, Bool.and_eq_true, C4.inB_iff, C4.inB_iff, decide_eq_true_eq] at hg
      obtain ⟨⟨⟨h1, h2⟩, h3, h4⟩, h5⟩ := hg
      have h6 := C4.inB_iff.1 h11
      dsimp only at h1 h2 h3 h4 h5 h6
      refine ⟨n.toNat, k.toNat, a.toNat, b.toNat, by omega, ?_, by omega, by omega, Or.inr (Or.inl ⟨by omega, by omega, by omega, by omega, by omega⟩)⟩
      rw [Int.toNat_of_nonneg (by omega), Int.toNat_of_nonneg (by omega), Int.toNat_of_nonneg (by omega)]
  · rw [C4.gB_8 h8, Bool.and_eq_true, C4.inB_iff, decide_eq_true_eq] at hg
    obtain ⟨⟨h1, h2⟩, h3⟩ := hg
    have h6 := C4.inB_iff.1 h8
    dsimp only at h1 h2 h3 h6
    refine ⟨n.toNat, k.toNat, a.toNat, 0, by omega, ?_, by omega, by omega, Or.inl ⟨by omega, by omega, by omega, rfl⟩⟩
    rw [Int.toNat_of_nonneg (by omega), Int.toNat_of_nonneg (by omega), h3]; rfl

set_option maxRecDepth 100000 in
set_option maxHeartbeats 2000000 in
theorem sg_f {n : Int} {g : C4.GateV} {w : World} (h : C4.vgB n g = false) :
    Calls Try.prog 41 #[.int .i64 n, g.v] w fun ee w' => ee = .returned (mt 0 0 none 0 0 false) ∧ Below w.heap.size w w' := by
  cases hn : C4.inB n 1 5
  · have HN := hid hn
    clear h hn
    go_enter Try.func41, Try.ntmps41
    go_wp2_with (fail)
    refine (C4.lin HN.out _).mono ?_
    rintro ee w1 ⟨rfl, rfl⟩
    go_wp2_with (fail)
    refine bodyPost_ret (v := mt 0 0 none 0 0 false) (by first | (simp [results, Try.results41, go_sem, *]; done) | (simp (disch := (first | omega | (simp; done) | (simp; omega))) [results, Try.results41, go_sem, *]; done) | (simp only [results, Try.results41]; go_simp; done)) rfl ⟨rfl, ?_⟩
    (repeat' (first | (with_reducible exact Below.refl _ _) | (with_reducible assumption) | (with_reducible refine Below.alloc ?_ ?_ _) | (with_reducible refine Below.drew ?_) | (with_reducible refine below_drewN ?_ _) | (with_reducible refine Below.setCell ?_ ?_ _) | (with_reducible refine chain ?_ (by assumption) ?_) | omega | (simp; done) | (simp; omega)))
  · have hg : C4.gB n g = false := by unfold C4.vgB at h; rw [hn, Bool.true_and] at h; exact h
    have hn2 := C4.inB_iff.1 hn
    have HN := hid hn
    have HG := hid hg
    clear h hn hg
    go_enter Try.func41, Try.ntmps41
    go_wp2_with (fail)
    refine (C4.lin HN.out _).mono ?_
    rintro ee w1 ⟨rfl, rfl⟩
    go_wp2_with (fail)
    refine (C4.lg HG.out hn2.1 hn2.2 _).mono ?_
    rintro ee w2 ⟨rfl, hb2⟩
    obtain ⟨hc2, hf2, _⟩ := bcell hb2; have hz2 := hb2.size; (try simp at hz2); (try have hx20 : w.heap.size < w2.heap.size := (by omega)); (try have hx21 : w.heap.size + 1 < w2.heap.size := (by omega)); (try have hx22 : w.heap.size + 1 + 1 < w2.heap.size := (by omega))
    go_wp2_with (fail)
    refine bodyPost_ret (v := mt 0 0 none 0 0 false) (by first | (simp [results, Try.results41, go_sem, *]; done) | (simp (disch := (first | omega | (simp; done) | (simp; omega))) [results, Try.results41, go_sem, *]; done) | (simp only [results, Try.results41]; go_simp; done)) rfl ⟨rfl, ?_⟩
    (repeat' (first | (with_reducible exact Below.refl _ _) | (with_reducible assumption) | (with_reducible refine Below.alloc ?_ ?_ _) | (with_reducible refine Below.drew ?_) | (with_reducible refine below_drewN ?_ _) | (with_reducible refine Below.setCell ?_ ?_ _) | (with_reducible refine chain ?_ (by assumption) ?_) | omega | (simp; done) | (simp; omega)))

set_option maxRecDepth 100000 in
set_option maxHeartbeats 2000000 in
theorem sg_t {m D NN kd A B : Nat} {w : World} (hv : C4.vgB (m : Int) ⟨(kd : Int), (A : Int), (B : Int)⟩ = true) (hok : okG m kd A B) (hD : D = 2 ^ m) (hNN : NN = D * D) :
    Calls Try.prog 41 #[.int .i64 (m : Int), .agg #[.int .i64 (kd : Int), .int .i64 (A : Int), .int .i64 (B : Int)]] w fun ee w' => ∃ Bo cq, ee = .returned (mt (D : Int) (D : Int) Bo NN cq true) ∧ Rd w' Bo (tab NN (gsF m D kd A B)) ∧ (∀ a, Bo = some a → w.heap.size ≤ a.block) ∧ Below w.heap.size w w' := by
  have hv2 := hv
  unfold C4.vgB at hv2
  rw [Bool.and_eq_true] at hv2
  obtain ⟨hn, hg⟩ := hv2
  have hn2 := C4.inB_iff.1 hn
  have HN := hid hn
  have HG := hid hg
  have HOK := hid hok
  have HD := hid hD
  have HNN := hid hNN
  clear hv hn hg hok hD hNN
  go_enter Try.func41, Try.ntmps41
  go_wp2_with (fail)
  refine (C4.lin HN.out _).mono ?_
  rintro ee w1 ⟨rfl, rfl⟩
  go_wp2_with (fail)
  refine (C4.lg HG.out hn2.1 hn2.2 _).mono ?_
  rintro ee w2 ⟨rfl, hb2⟩
  have Xz : Bx w2 (w.heap.size + 1) 26 #[.int .i64 0, .int .i64 0, .slice none 0 0] := by (repeat' (first | (with_reducible assumption) | (refine Bx.new (by first | (with_reducible rfl) | (simp; done))) | (with_reducible refine Bx.alloc ?_ _) | (with_reducible refine Bx.drew ?_) | (with_reducible refine Bx.drewN ?_ _) | (with_reducible refine Bx.mono ?_ (by assumption)) | (with_reducible refine Bx.badly ?_ (by assumption) (by omega)) | (with_reducible refine Bx.far ?_ (by (try simp only [World.size_alloc, World.size_drew]); omega)) | (with_reducible refine Bx.set ?_ rfl) | (with_reducible refine Bx.grown ?_ (by assumption) (by assumption))))
  have Xg : Bx w2 (w.heap.size) 59 #[.int .i64 (kd : Int), .int .i64 (A : Int), .int .i64 (B : Int)] := by (repeat' (first | (with_reducible assumption) | (refine Bx.new (by first | (with_reducible rfl) | (simp; done))) | (with_reducible refine Bx.alloc ?_ _) | (with_reducible refine Bx.drew ?_) | (with_reducible refine Bx.drewN ?_ _) | (with_reducible refine Bx.mono ?_ (by assumption)) | (with_reducible refine Bx.badly ?_ (by assumption) (by omega)) | (with_reducible refine Bx.far ?_ (by (try simp only [World.size_alloc, World.size_drew]); omega)) | (with_reducible refine Bx.set ?_ rfl) | (with_reducible refine Bx.grown ?_ (by assumption) (by assumption))))
  have cg0 := Xg.c 0 rfl
  have cg1 := Xg.c 1 rfl
  have cg2 := Xg.c 2 rfl
  have lg := Xg.lt
  have hw2 : Below w.heap.size w w2 := by (repeat' (first | (with_reducible exact Below.refl _ _) | (with_reducible assumption) | (with_reducible refine Below.alloc ?_ ?_ _) | (with_reducible refine Below.drew ?_) | (with_reducible refine below_drewN ?_ _) | (with_reducible refine Below.setCell ?_ ?_ _) | (with_reducible refine chain ?_ (by assumption) ?_) | omega | (simp; done) | (simp; omega)))
  have cz0 := Xz.c 0 rfl
  have cz1 := Xz.c 1 rfl
  have cz2 := Xz.c 2 rfl
  have lz := Xz.lt
  clear hb2
  go_wp2_with (fail)
  refine (lgate HOK.out HD.out HNN.out).mono ?_
  rintro ee w3 ⟨Bo, cq, rfl, hR, hBa, hb3⟩
  have Yz := Xz.mono hb3
  have d0 := Yz.c 0 rfl
  have d1 := Yz.c 1 rfl
  have d2 := Yz.c 2 rfl
  have df := Yz.f
  have HR := hid hR
  have HBa := hid hBa
  have hw3 := chain hw2 hb3 hw2.size
  have hz2 := hw2.size
  have hz3 := hb3.size
  clear cz0 cz1 cz2 cg0 cg1 cg2 hR hBa hb3
  go_wp2_with (fail)
  refine bodyPost_ret (v := mt (D : Int) (D : Int) Bo NN cq true) (by first | (simp [results, Try.results41, go_sem, *]; done) | (simp (disch := (first | omega | (simp; done) | (simp; omega))) [results, Try.results41, go_sem, *]; done) | (simp only [results, Try.results41]; go_simp; done)) rfl ⟨Bo, cq, rfl, ?_, fun a ha => ?_, ?_⟩
  · (repeat' (first | exact HR.out | refine Rd.far ?_ (fun a ha => by have := HBa.out a ha; show _ ≠ w.heap.size + 1; omega) _))
  · have := HBa.out a ha; omega
  · (repeat' (first | (with_reducible exact Below.refl _ _) | (with_reducible assumption) | (with_reducible refine Below.alloc ?_ ?_ _) | (with_reducible refine Below.drew ?_) | (with_reducible refine below_drewN ?_ _) | (with_reducible refine Below.setCell ?_ ?_ _) | (with_reducible refine chain ?_ (by assumption) ?_) | omega | (simp; done) | (simp; omega)))

set_option maxRecDepth 100000 in
set_option maxHeartbeats 2000000 in
theorem ig_f {n : Int} {g : C4.GateV} {w : World} (h : C4.vgB n g = false) :
    Calls Try.prog 43 #[.int .i64 n, g.v] w fun ee w' => ee = .returned (mt 0 0 none 0 0 false) ∧ Below w.heap.size w w' := by
  have HH := hid h
  clear h
  go_enter Try.func43, Try.ntmps43
  go_wp2_with (fail)
  refine (C4.ivg HH.out _).mono ?_
  rintro ee w1 ⟨rfl, hb1⟩
  obtain ⟨hc1, hf1, _⟩ := bcell hb1; have hz1 := hb1.size; (try simp at hz1); (try have hx10 : w.heap.size < w1.heap.size := (by omega)); (try have hx11 : w.heap.size + 1 < w1.heap.size := (by omega)); (try have hx12 : w.heap.size + 1 + 1 < w1.heap.size := (by omega))
  go_wp2_with (fail)
  refine bodyPost_ret (v := mt 0 0 none 0 0 false) (by first | (simp [results, Try.results43, go_sem, *]; done) | (simp (disch := (first | omega | (simp; done) | (simp; omega))) [results, Try.results43, go_sem, *]; done) | (simp only [results, Try.results43]; go_simp; done)) rfl ⟨rfl, ?_⟩
  (repeat' (first | (with_reducible exact Below.refl _ _) | (with_reducible assumption) | (with_reducible refine Below.alloc ?_ ?_ _) | (with_reducible refine Below.drew ?_) | (with_reducible refine below_drewN ?_ _) | (with_reducible refine Below.setCell ?_ ?_ _) | (with_reducible refine chain ?_ (by assumption) ?_) | omega | (simp; done) | (simp; omega)))

set_option maxRecDepth 100000 in
set_option maxHeartbeats 16000000 in
theorem lwGateMatrix {n R : Int} {g : C4.GateV} {k : Nat} {zs : List D5} {ok : Bool} {w : World} (hS : ∀ (w : World), Calls Try.prog 41 #[.int .i64 n, g.v] w fun ee w' => ∃ A cp, ee = .returned (mt R R A k cp ok) ∧ (Rd w' A zs ∧ (∀ a, A = some a → w.heap.size ≤ a.block)) ∧ Below w.heap.size w w') (hI : ∀ (w : World), Calls Try.prog 43 #[.int .i64 n, g.v] w fun ee w' => ∃ A cp, ee = .returned (mt R R A k cp ok) ∧ (Ow w' w.heap.size 37 A zs) ∧ Below w.heap.size w w') (hz : zs.length = k) (hk : k ≤ 1048576) :
    Calls Try.prog 9 #[.int .i64 n, g.v] w fun ee w' => ee = .returned (.bool true) ∧ Below w.heap.size w w' := by
  have HS := hid hS
  have HI := hid hI
  have HZ := hid hz
  have u0 : ¬ (1 + 5 * (k : Int) < 0) := by omega
  have u1 : 0 ≤ 1 + 5 * (k : Int) := by omega
  clear hS hI hz
  go_enter Try.func9, Try.ntmps9
  go_wp2_with (fail)
  refine (C4.toGate g _).mono ?_
  rintro ee w1 ⟨rfl, hb1⟩
  have hL1 : Below w.heap.size w w1 := by (repeat' (first | (with_reducible exact Below.refl _ _) | (with_reducible assumption) | (with_reducible refine Below.alloc ?_ ?_ _) | (with_reducible refine Below.drew ?_) | (with_reducible refine below_drewN ?_ _) | (with_reducible refine Below.setCell ?_ ?_ _) | (with_reducible refine chain ?_ (by assumption) ?_) | omega | (simp; done) | (simp; omega)))
  have hz1 := hb1.size
  (try simp only [World.size_alloc] at hz1)
  have hB1 : Below w.heap.size w w1 := hL1
  have k1_0_0 : w1.cell? ⟨w.heap.size, 0, none⟩ = some (.int .i64 g.f0) := (hb1.cell (p := ⟨w.heap.size, 0, none⟩) (by show w.heap.size < _; (try simp only [World.size_alloc]); omega)).trans (by first | rfl | (simp; done) | (simp [*]; done))
  have k1_0_1 : w1.cell? ⟨w.heap.size, 1, none⟩ = some (.int .i64 g.f1) := (hb1.cell (p := ⟨w.heap.size, 1, none⟩) (by show w.heap.size < _; (try simp only [World.size_alloc]); omega)).trans (by first | rfl | (simp; done) | (simp [*]; done))
  have k1_0_2 : w1.cell? ⟨w.heap.size, 2, none⟩ = some (.int .i64 g.f2) := (hb1.cell (p := ⟨w.heap.size, 2, none⟩) (by show w.heap.size < _; (try simp only [World.size_alloc]); omega)).trans (by first | rfl | (simp; done) | (simp [*]; done))
  have bl1_0 : w.heap.size < w1.heap.size := World.block_lt_of_cell? _ _ k1_0_0
  clear hb1 hL1
  go_wp2_with (fail)
  refine (HS.out _).mono ?_
  rintro ee w2 ⟨A3, cp3, rfl, ⟨hR3, hA3⟩, hb2⟩
  have hL2 : Below w1.heap.size w1 w2 := by (repeat' (first | (with_reducible exact Below.refl _ _) | (with_reducible assumption) | (with_reducible refine Below.alloc ?_ ?_ _) | (with_reducible refine Below.drew ?_) | (with_reducible refine below_drewN ?_ _) | (with_reducible refine Below.setCell ?_ ?_ _) | (with_reducible refine chain ?_ (by assumption) ?_) | omega | (simp; done) | (simp; omega)))
  have hz2 := hb2.size
  (try simp only [World.size_alloc] at hz2)
  have hB2 : Below w.heap.size w w2 := chain hB1 hL2 hB1.size
  have k2_0_0 : w2.cell? ⟨w.heap.size, 0, none⟩ = some (.int .i64 g.f0) := (hL2.cell (p := ⟨w.heap.size, 0, none⟩) (by show w.heap.size < w1.heap.size; omega)).trans k1_0_0
  have k2_0_1 : w2.cell? ⟨w.heap.size, 1, none⟩ = some (.int .i64 g.f1) := (hL2.cell (p := ⟨w.heap.size, 1, none⟩) (by show w.heap.size < w1.heap.size; omega)).trans k1_0_1
  have k2_0_2 : w2.cell? ⟨w.heap.size, 2, none⟩ = some (.int .i64 g.f2) := (hL2.cell (p := ⟨w.heap.size, 2, none⟩) (by show w.heap.size < w1.heap.size; omega)).trans k1_0_2
  have bl2_0 : w.heap.size < w2.heap.size := World.block_lt_of_cell? _ _ k2_0_0
  clear hb2 hL2
  clear k1_0_0 k1_0_1 k1_0_2
  have HW2 : Hid (RdB w2 w2.heap.size A3 zs) := hR3.b (Nat.le_refl _)
  clear hR3 hA3
  go_wp2_with (fail)
  refine (C4.toGate g _).mono ?_
  rintro ee w3 ⟨rfl, hb3⟩
  have hL3 : Below w2.heap.size w2 w3 := by (repeat' (first | (with_reducible exact Below.refl _ _) | (with_reducible assumption) | (with_reducible refine Below.alloc ?_ ?_ _) | (with_reducible refine Below.drew ?_) | (with_reducible refine below_drewN ?_ _) | (with_reducible refine Below.setCell ?_ ?_ _) | (with_reducible refine chain ?_ (by assumption) ?_) | omega | (simp; done) | (simp; omega)))
  have hz3 := hb3.size
  (try simp only [World.size_alloc] at hz3)
  have hB3 : Below w.heap.size w w3 := chain hB2 hL3 hB2.size
  have k3_0_0 : w3.cell? ⟨w.heap.size, 0, none⟩ = some (.int .i64 g.f0) := (hL3.cell (p := ⟨w.heap.size, 0, none⟩) (by show w.heap.size < w2.heap.size; omega)).trans k2_0_0
  have k3_0_1 : w3.cell? ⟨w.heap.size, 1, none⟩ = some (.int .i64 g.f1) := (hL3.cell (p := ⟨w.heap.size, 1, none⟩) (by show w.heap.size < w2.heap.size; omega)).trans k2_0_1
  have k3_0_2 : w3.cell? ⟨w.heap.size, 2, none⟩ = some (.int .i64 g.f2) := (hL3.cell (p := ⟨w.heap.size, 2, none⟩) (by show w.heap.size < w2.heap.size; omega)).trans k2_0_2
  have k3_1_0 : w3.cell? ⟨w2.heap.size, 0, none⟩ = some (.int .i64 R) := (hb3.cell (p := ⟨w2.heap.size, 0, none⟩) (by show w2.heap.size < _; (try simp only [World.size_alloc]); omega)).trans (by first | rfl | (simp; done) | (simp [*]; done))
  have k3_1_1 : w3.cell? ⟨w2.heap.size, 1, none⟩ = some (.int .i64 R) := (hb3.cell (p := ⟨w2.heap.size, 1, none⟩) (by show w2.heap.size < _; (try simp only [World.size_alloc]); omega)).trans (by first | rfl | (simp; done) | (simp [*]; done))
  have k3_1_2 : w3.cell? ⟨w2.heap.size, 2, none⟩ = some (.slice A3 k cp3) := (hb3.cell (p := ⟨w2.heap.size, 2, none⟩) (by show w2.heap.size < _; (try simp only [World.size_alloc]); omega)).trans (by first | rfl | (simp; done) | (simp [*]; done))
  have bl3_0 : w.heap.size < w3.heap.size := World.block_lt_of_cell? _ _ k3_0_0
  have bl3_1 : w2.heap.size < w3.heap.size := World.block_lt_of_cell? _ _ k3_1_0
  have HW3 := hid (HW2.out.mono hL3)
  clear hb3 hL3
  clear k2_0_0 k2_0_1 k2_0_2 HW2
  go_wp2_with (fail)
  refine (HI.out _).mono ?_
  rintro ee w4 ⟨A6, cp6, rfl, hO6, hb4⟩
  have hL4 : Below w3.heap.size w3 w4 := by (repeat' (first | (with_reducible exact Below.refl _ _) | (with_reducible assumption) | (with_reducible refine Below.alloc ?_ ?_ _) | (with_reducible refine Below.drew ?_) | (with_reducible refine below_drewN ?_ _) | (with_reducible refine Below.setCell ?_ ?_ _) | (with_reducible refine chain ?_ (by assumption) ?_) | omega | (simp; done) | (simp; omega)))
  have hz4 := hb4.size
  (try simp only [World.size_alloc] at hz4)
  have hB4 : Below w.heap.size w w4 := chain hB3 hL4 hB3.size
  have k4_0_0 : w4.cell? ⟨w.heap.size, 0, none⟩ = some (.int .i64 g.f0) := (hL4.cell (p := ⟨w.heap.size, 0, none⟩) (by show w.heap.size < w3.heap.size; omega)).trans k3_0_0
  have k4_0_1 : w4.cell? ⟨w.heap.size, 1, none⟩ = some (.int .i64 g.f1) := (hL4.cell (p := ⟨w.heap.size, 1, none⟩) (by show w.heap.size < w3.heap.size; omega)).trans k3_0_1
  have k4_0_2 : w4.cell? ⟨w.heap.size, 2, none⟩ = some (.int .i64 g.f2) := (hL4.cell (p := ⟨w.heap.size, 2, none⟩) (by show w.heap.size < w3.heap.size; omega)).trans k3_0_2
  have k4_1_0 : w4.cell? ⟨w2.heap.size, 0, none⟩ = some (.int .i64 R) := (hL4.cell (p := ⟨w2.heap.size, 0, none⟩) (by show w2.heap.size < w3.heap.size; omega)).trans k3_1_0
  have k4_1_1 : w4.cell? ⟨w2.heap.size, 1, none⟩ = some (.int .i64 R) := (hL4.cell (p := ⟨w2.heap.size, 1, none⟩) (by show w2.heap.size < w3.heap.size; omega)).trans k3_1_1
  have k4_1_2 : w4.cell? ⟨w2.heap.size, 2, none⟩ = some (.slice A3 k cp3) := (hL4.cell (p := ⟨w2.heap.size, 2, none⟩) (by show w2.heap.size < w3.heap.size; omega)).trans k3_1_2
  have bl4_0 : w.heap.size < w4.heap.size := World.block_lt_of_cell? _ _ k4_0_0
  have bl4_1 : w2.heap.size < w4.heap.size := World.block_lt_of_cell? _ _ k4_1_0
  have HW4 := hid (HW3.out.mono hL4)
  clear hb4 hL4
  clear k3_0_0 k3_0_1 k3_0_2 k3_1_0 k3_1_1 k3_1_2 HW3
  (try simp only [World.size_alloc] at hO6)
  have HG4 : Hid (Ow w4 (w2.heap.size + 1) 37 A6 zs) := hO6.dn (by omega)
  clear hO6
  have hr_G := HG4.out.row
  go_wp2_with (fail)
  refine (eqm (xs := zs) ?_ ?_ HZ.out hk).mono ?_
  · exact HG4.out.rd.mono (by (repeat' (first | (with_reducible exact Below.refl _ _) | (with_reducible assumption) | (with_reducible refine Below.alloc ?_ ?_ _) | (with_reducible refine Below.drew ?_) | (with_reducible refine below_drewN ?_ _) | (with_reducible refine Below.setCell ?_ ?_ _) | (with_reducible refine chain ?_ (by assumption) ?_) | omega | (simp; done) | (simp; omega))))
  · exact HW4.out.rd.mono (by (repeat' (first | (with_reducible exact Below.refl _ _) | (with_reducible assumption) | (with_reducible refine Below.alloc ?_ ?_ _) | (with_reducible refine Below.drew ?_) | (with_reducible refine below_drewN ?_ _) | (with_reducible refine Below.setCell ?_ ?_ _) | (with_reducible refine chain ?_ (by assumption) ?_) | omega | (simp; done) | (simp; omega))))
  rintro ee w5 ⟨rfl, hb5⟩
  have hL5 : Below w4.heap.size w4 w5 := by (repeat' (first | (with_reducible exact Below.refl _ _) | (with_reducible assumption) | (with_reducible refine Below.alloc ?_ ?_ _) | (with_reducible refine Below.drew ?_) | (with_reducible refine below_drewN ?_ _) | (with_reducible refine Below.setCell ?_ ?_ _) | (with_reducible refine chain ?_ (by assumption) ?_) | omega | (simp; done) | (simp; omega)))
  have hz5 := hb5.size
  (try simp only [World.size_alloc] at hz5)
  have hB5 : Below w.heap.size w w5 := chain hB4 hL5 hB4.size
  have k5_0_0 : w5.cell? ⟨w.heap.size, 0, none⟩ = some (.int .i64 g.f0) := (hL5.cell (p := ⟨w.heap.size, 0, none⟩) (by show w.heap.size < w4.heap.size; omega)).trans k4_0_0
  have k5_0_1 : w5.cell? ⟨w.heap.size, 1, none⟩ = some (.int .i64 g.f1) := (hL5.cell (p := ⟨w.heap.size, 1, none⟩) (by show w.heap.size < w4.heap.size; omega)).trans k4_0_1
  have k5_0_2 : w5.cell? ⟨w.heap.size, 2, none⟩ = some (.int .i64 g.f2) := (hL5.cell (p := ⟨w.heap.size, 2, none⟩) (by show w.heap.size < w4.heap.size; omega)).trans k4_0_2
  have k5_1_0 : w5.cell? ⟨w2.heap.size, 0, none⟩ = some (.int .i64 R) := (hL5.cell (p := ⟨w2.heap.size, 0, none⟩) (by show w2.heap.size < w4.heap.size; omega)).trans k4_1_0
  have k5_1_1 : w5.cell? ⟨w2.heap.size, 1, none⟩ = some (.int .i64 R) := (hL5.cell (p := ⟨w2.heap.size, 1, none⟩) (by show w2.heap.size < w4.heap.size; omega)).trans k4_1_1
  have k5_1_2 : w5.cell? ⟨w2.heap.size, 2, none⟩ = some (.slice A3 k cp3) := (hL5.cell (p := ⟨w2.heap.size, 2, none⟩) (by show w2.heap.size < w4.heap.size; omega)).trans k4_1_2
  have k5_2_0 : w5.cell? ⟨w4.heap.size, 0, none⟩ = some (.int .i64 R) := (hb5.cell (p := ⟨w4.heap.size, 0, none⟩) (by show w4.heap.size < _; (try simp only [World.size_alloc]); omega)).trans (by first | rfl | (simp; done) | (simp [*]; done))
  have k5_2_1 : w5.cell? ⟨w4.heap.size, 1, none⟩ = some (.int .i64 R) := (hb5.cell (p := ⟨w4.heap.size, 1, none⟩) (by show w4.heap.size < _; (try simp only [World.size_alloc]); omega)).trans (by first | rfl | (simp; done) | (simp [*]; done))
  have k5_2_2 : w5.cell? ⟨w4.heap.size, 2, none⟩ = some (.slice A6 k cp6) := (hb5.cell (p := ⟨w4.heap.size, 2, none⟩) (by show w4.heap.size < _; (try simp only [World.size_alloc]); omega)).trans (by first | rfl | (simp; done) | (simp [*]; done))
  have bl5_0 : w.heap.size < w5.heap.size := World.block_lt_of_cell? _ _ k5_0_0
  have bl5_1 : w2.heap.size < w5.heap.size := World.block_lt_of_cell? _ _ k5_1_0
  have bl5_2 : w4.heap.size < w5.heap.size := World.block_lt_of_cell? _ _ k5_2_0
  have HW5 := hid (HW4.out.mono hL5)
  have HG5 := hid (HG4.out.mono hL5)
  clear hb5 hL5
  clear k4_0_0 k4_0_1 k4_0_2 k4_1_0 k4_1_1 k4_1_2 HW4 HG4
  go_wp2_with (fail)
  refine (mkm (B := w2.heap.size + 1) (xs := zs) ?_ HZ.out hk (by decide) (by decide)).mono ?_
  · exact HG5.out
  rintro ee w6 ⟨rfl, hO6, hG6⟩
  have hz6 := hG6.size
  have hB6 : Below w.heap.size w w6 := Below.grown hB5 hG6 hB5.size (fun r hr => by have := hr_G r hr; omega)
  have k6_0_0 : w6.cell? ⟨w.heap.size, 0, none⟩ = some (.int .i64 g.f0) := hG6.cell k5_0_0 (fun e => by have := hr_G (w.heap.size) e.symm; omega)
  have k6_0_1 : w6.cell? ⟨w.heap.size, 1, none⟩ = some (.int .i64 g.f1) := hG6.cell k5_0_1 (fun e => by have := hr_G (w.heap.size) e.symm; omega)
  have k6_0_2 : w6.cell? ⟨w.heap.size, 2, none⟩ = some (.int .i64 g.f2) := hG6.cell k5_0_2 (fun e => by have := hr_G (w.heap.size) e.symm; omega)
  have k6_1_0 : w6.cell? ⟨w2.heap.size, 0, none⟩ = some (.int .i64 R) := hG6.cell k5_1_0 (fun e => by have := hr_G (w2.heap.size) e.symm; omega)
  have k6_1_1 : w6.cell? ⟨w2.heap.size, 1, none⟩ = some (.int .i64 R) := hG6.cell k5_1_1 (fun e => by have := hr_G (w2.heap.size) e.symm; omega)
  have k6_1_2 : w6.cell? ⟨w2.heap.size, 2, none⟩ = some (.slice A3 k cp3) := hG6.cell k5_1_2 (fun e => by have := hr_G (w2.heap.size) e.symm; omega)
  have k6_2_0 : w6.cell? ⟨w4.heap.size, 0, none⟩ = some (.int .i64 R) := hG6.cell k5_2_0 (fun e => by have := hr_G (w4.heap.size) e.symm; omega)
  have k6_2_1 : w6.cell? ⟨w4.heap.size, 1, none⟩ = some (.int .i64 R) := hG6.cell k5_2_1 (fun e => by have := hr_G (w4.heap.size) e.symm; omega)
  have k6_2_2 : w6.cell? ⟨w4.heap.size, 2, none⟩ = some (.slice A6 k cp6) := hG6.cell k5_2_2 (fun e => by have := hr_G (w4.heap.size) e.symm; omega)
  have HW6 := hid (HW5.out.grown hG6 (fun r hr => by have := hr_G r hr; omega))
  have bl6_0 : w.heap.size < w6.heap.size := World.block_lt_of_cell? _ _ k6_0_0
  have bl6_1 : w2.heap.size < w6.heap.size := World.block_lt_of_cell? _ _ k6_1_0
  have bl6_2 : w4.heap.size < w6.heap.size := World.block_lt_of_cell? _ _ k6_2_0
  have HG6 := hid hO6
  clear hO6 hG6
  clear k5_0_0 k5_0_1 k5_0_2 k5_1_0 k5_1_1 k5_1_2 k5_2_0 k5_2_1 k5_2_2 HW5 HG5
  go_wp2_with (fail)
  refine (hdm ?_ hk (by decide) (by decide)).mono ?_
  · exact HG6.out.rd.mono (by (repeat' (first | (with_reducible exact Below.refl _ _) | (with_reducible assumption) | (with_reducible refine Below.alloc ?_ ?_ _) | (with_reducible refine Below.drew ?_) | (with_reducible refine below_drewN ?_ _) | (with_reducible refine Below.setCell ?_ ?_ _) | (with_reducible refine chain ?_ (by assumption) ?_) | omega | (simp; done) | (simp; omega))))
  rintro ee w7 ⟨rfl, hb7⟩
  have hL7 : Below w6.heap.size w6 w7 := by (repeat' (first | (with_reducible exact Below.refl _ _) | (with_reducible assumption) | (with_reducible refine Below.alloc ?_ ?_ _) | (with_reducible refine Below.drew ?_) | (with_reducible refine below_drewN ?_ _) | (with_reducible refine Below.setCell ?_ ?_ _) | (with_reducible refine chain ?_ (by assumption) ?_) | omega | (simp; done) | (simp; omega)))
  have hz7 := hb7.size
  (try simp only [World.size_alloc] at hz7)
  have hB7 : Below w.heap.size w w7 := chain hB6 hL7 hB6.size
  have k7_0_0 : w7.cell? ⟨w.heap.size, 0, none⟩ = some (.int .i64 g.f0) := (hL7.cell (p := ⟨w.heap.size, 0, none⟩) (by show w.heap.size < w6.heap.size; omega)).trans k6_0_0
  have k7_0_1 : w7.cell? ⟨w.heap.size, 1, none⟩ = some (.int .i64 g.f1) := (hL7.cell (p := ⟨w.heap.size, 1, none⟩) (by show w.heap.size < w6.heap.size; omega)).trans k6_0_1
  have k7_0_2 : w7.cell? ⟨w.heap.size, 2, none⟩ = some (.int .i64 g.f2) := (hL7.cell (p := ⟨w.heap.size, 2, none⟩) (by show w.heap.size < w6.heap.size; omega)).trans k6_0_2
  have k7_1_0 : w7.cell? ⟨w2.heap.size, 0, none⟩ = some (.int .i64 R) := (hL7.cell (p := ⟨w2.heap.size, 0, none⟩) (by show w2.heap.size < w6.heap.size; omega)).trans k6_1_0
  have k7_1_1 : w7.cell? ⟨w2.heap.size, 1, none⟩ = some (.int .i64 R) := (hL7.cell (p := ⟨w2.heap.size, 1, none⟩) (by show w2.heap.size < w6.heap.size; omega)).trans k6_1_1
  have k7_1_2 : w7.cell? ⟨w2.heap.size, 2, none⟩ = some (.slice A3 k cp3) := (hL7.cell (p := ⟨w2.heap.size, 2, none⟩) (by show w2.heap.size < w6.heap.size; omega)).trans k6_1_2
  have k7_2_0 : w7.cell? ⟨w4.heap.size, 0, none⟩ = some (.int .i64 R) := (hL7.cell (p := ⟨w4.heap.size, 0, none⟩) (by show w4.heap.size < w6.heap.size; omega)).trans k6_2_0
  have k7_2_1 : w7.cell? ⟨w4.heap.size, 1, none⟩ = some (.int .i64 R) := (hL7.cell (p := ⟨w4.heap.size, 1, none⟩) (by show w4.heap.size < w6.heap.size; omega)).trans k6_2_1
  have k7_2_2 : w7.cell? ⟨w4.heap.size, 2, none⟩ = some (.slice A6 k cp6) := (hL7.cell (p := ⟨w4.heap.size, 2, none⟩) (by show w4.heap.size < w6.heap.size; omega)).trans k6_2_2
  have bl7_0 : w.heap.size < w7.heap.size := World.block_lt_of_cell? _ _ k7_0_0
  have bl7_1 : w2.heap.size < w7.heap.size := World.block_lt_of_cell? _ _ k7_1_0
  have bl7_2 : w4.heap.size < w7.heap.size := World.block_lt_of_cell? _ _ k7_2_0
  have HW7 := hid (HW6.out.mono hL7)
  have HG7 := hid (HG6.out.mono hL7)
  clear hb7 hL7
  clear k6_0_0 k6_0_1 k6_0_2 k6_1_0 k6_1_1 k6_1_2 k6_2_0 k6_2_1 k6_2_2 HW6 HG6
  go_wp2_with (fail)
  refine (C4.toGate g _).mono ?_
  rintro ee w8 ⟨rfl, hb8⟩
  have hL8 : Below w7.heap.size w7 w8 := by (repeat' (first | (with_reducible exact Below.refl _ _) | (with_reducible assumption) | (with_reducible refine Below.alloc ?_ ?_ _) | (with_reducible refine Below.drew ?_) | (with_reducible refine below_drewN ?_ _) | (with_reducible refine Below.setCell ?_ ?_ _) | (with_reducible refine chain ?_ (by assumption) ?_) | omega | (simp; done) | (simp; omega)))
  have hz8 := hb8.size
  (try simp only [World.size_alloc] at hz8)
  have hB8 : Below w.heap.size w w8 := chain hB7 hL8 hB7.size
  have k8_0_0 : w8.cell? ⟨w.heap.size, 0, none⟩ = some (.int .i64 g.f0) := (hL8.cell (p := ⟨w.heap.size, 0, none⟩) (by show w.heap.size < w7.heap.size; omega)).trans k7_0_0
  have k8_0_1 : w8.cell? ⟨w.heap.size, 1, none⟩ = some (.int .i64 g.f1) := (hL8.cell (p := ⟨w.heap.size, 1, none⟩) (by show w.heap.size < w7.heap.size; omega)).trans k7_0_1
  have k8_0_2 : w8.cell? ⟨w.heap.size, 2, none⟩ = some (.int .i64 g.f2) := (hL8.cell (p := ⟨w.heap.size, 2, none⟩) (by show w.heap.size < w7.heap.size; omega)).trans k7_0_2
  have k8_1_0 : w8.cell? ⟨w2.heap.size, 0, none⟩ = some (.int .i64 R) := (hL8.cell (p := ⟨w2.heap.size, 0, none⟩) (by show w2.heap.size < w7.heap.size; omega)).trans k7_1_0
  have k8_1_1 : w8.cell? ⟨w2.heap.size, 1, none⟩ = some (.int .i64 R) := (hL8.cell (p := ⟨w2.heap.size, 1, none⟩) (by show w2.heap.size < w7.heap.size; omega)).trans k7_1_1
  have k8_1_2 : w8.cell? ⟨w2.heap.size, 2, none⟩ = some (.slice A3 k cp3) := (hL8.cell (p := ⟨w2.heap.size, 2, none⟩) (by show w2.heap.size < w7.heap.size; omega)).trans k7_1_2
  have k8_2_0 : w8.cell? ⟨w4.heap.size, 0, none⟩ = some (.int .i64 R) := (hL8.cell (p := ⟨w4.heap.size, 0, none⟩) (by show w4.heap.size < w7.heap.size; omega)).trans k7_2_0
  have k8_2_1 : w8.cell? ⟨w4.heap.size, 1, none⟩ = some (.int .i64 R) := (hL8.cell (p := ⟨w4.heap.size, 1, none⟩) (by show w4.heap.size < w7.heap.size; omega)).trans k7_2_1
  have k8_2_2 : w8.cell? ⟨w4.heap.size, 2, none⟩ = some (.slice A6 k cp6) := (hL8.cell (p := ⟨w4.heap.size, 2, none⟩) (by show w4.heap.size < w7.heap.size; omega)).trans k7_2_2
  have bl8_0 : w.heap.size < w8.heap.size := World.block_lt_of_cell? _ _ k8_0_0
  have bl8_1 : w2.heap.size < w8.heap.size := World.block_lt_of_cell? _ _ k8_1_0
  have bl8_2 : w4.heap.size < w8.heap.size := World.block_lt_of_cell? _ _ k8_2_0
  have HW8 := hid (HW7.out.mono hL8)
  have HG8 := hid (HG7.out.mono hL8)
  clear hb8 hL8
  clear k7_0_0 k7_0_1 k7_0_2 k7_1_0 k7_1_1 k7_1_2 k7_2_0 k7_2_1 k7_2_2 HW7 HG7
  go_wp2_with (fail)
  refine (HI.out _).mono ?_
  rintro ee w9 ⟨A13, cp13, rfl, hO13, hb9⟩
  have hL9 : Below w8.heap.size w8 w9 := by (repeat' (first | (with_reducible exact Below.refl _ _) | (with_reducible assumption) | (with_reducible refine Below.alloc ?_ ?_ _) | (with_reducible refine Below.drew ?_) | (with_reducible refine below_drewN ?_ _) | (with_reducible refine Below.setCell ?_ ?_ _) | (with_reducible refine chain ?_ (by assumption) ?_) | omega | (simp; done) | (simp; omega)))
  have hz9 := hb9.size
  (try simp only [World.size_alloc] at hz9)
  have hB9 : Below w.heap.size w w9 := chain hB8 hL9 hB8.size
  have k9_0_0 : w9.cell? ⟨w.heap.size, 0, none⟩ = some (.int .i64 g.f0) := (hL9.cell (p := ⟨w.heap.size, 0, none⟩) (by show w.heap.size < w8.heap.size; omega)).trans k8_0_0
  have k9_0_1 : w9.cell? ⟨w.heap.size, 1, none⟩ = some (.int .i64 g.f1) := (hL9.cell (p := ⟨w.heap.size, 1, none⟩) (by show w.heap.size < w8.heap.size; omega)).trans k8_0_1
  have k9_0_2 : w9.cell? ⟨w.heap.size, 2, none⟩ = some (.int .i64 g.f2) := (hL9.cell (p := ⟨w.heap.size, 2, none⟩) (by show w.heap.size < w8.heap.size; omega)).trans k8_0_2
  have k9_1_0 : w9.cell? ⟨w2.heap.size, 0, none⟩ = some (.int .i64 R) := (hL9.cell (p := ⟨w2.heap.size, 0, none⟩) (by show w2.heap.size < w8.heap.size; omega)).trans k8_1_0
  have k9_1_1 : w9.cell? ⟨w2.heap.size, 1, none⟩ = some (.int .i64 R) := (hL9.cell (p := ⟨w2.heap.size, 1, none⟩) (by show w2.heap.size < w8.heap.size; omega)).trans k8_1_1
  have k9_1_2 : w9.cell? ⟨w2.heap.size, 2, none⟩ = some (.slice A3 k cp3) := (hL9.cell (p := ⟨w2.heap.size, 2, none⟩) (by show w2.heap.size < w8.heap.size; omega)).trans k8_1_2
  have k9_2_0 : w9.cell? ⟨w4.heap.size, 0, none⟩ = some (.int .i64 R) := (hL9.cell (p := ⟨w4.heap.size, 0, none⟩) (by show w4.heap.size < w8.heap.size; omega)).trans k8_2_0
  have k9_2_1 : w9.cell? ⟨w4.heap.size, 1, none⟩ = some (.int .i64 R) := (hL9.cell (p := ⟨w4.heap.size, 1, none⟩) (by show w4.heap.size < w8.heap.size; omega)).trans k8_2_1
  have k9_2_2 : w9.cell? ⟨w4.heap.size, 2, none⟩ = some (.slice A6 k cp6) := (hL9.cell (p := ⟨w4.heap.size, 2, none⟩) (by show w4.heap.size < w8.heap.size; omega)).trans k8_2_2
  have bl9_0 : w.heap.size < w9.heap.size := World.block_lt_of_cell? _ _ k9_0_0
  have bl9_1 : w2.heap.size < w9.heap.size := World.block_lt_of_cell? _ _ k9_1_0
  have bl9_2 : w4.heap.size < w9.heap.size := World.block_lt_of_cell? _ _ k9_2_0
  have HW9 := hid (HW8.out.mono hL9)
  have HG9 := hid (HG8.out.mono hL9)
  clear hb9 hL9
  clear k8_0_0 k8_0_1 k8_0_2 k8_1_0 k8_1_1 k8_1_2 k8_2_0 k8_2_1 k8_2_2 HW8 HG8
  have HH9 := hid hO13.rd
  clear hO13
  go_wp2_with (fail)
  refine (eqm (xs := zs) ?_ ?_ HZ.out hk).mono ?_
  · exact HH9.out.mono (by (repeat' (first | (with_reducible exact Below.refl _ _) | (with_reducible assumption) | (with_reducible refine Below.alloc ?_ ?_ _) | (with_reducible refine Below.drew ?_) | (with_reducible refine below_drewN ?_ _) | (with_reducible refine Below.setCell ?_ ?_ _) | (with_reducible refine chain ?_ (by assumption) ?_) | omega | (simp; done) | (simp; omega))))
  · exact HW9.out.rd.mono (by (repeat' (first | (with_reducible exact Below.refl _ _) | (with_reducible assumption) | (with_reducible refine Below.alloc ?_ ?_ _) | (with_reducible refine Below.drew ?_) | (with_reducible refine below_drewN ?_ _) | (with_reducible refine Below.setCell ?_ ?_ _) | (with_reducible refine chain ?_ (by assumption) ?_) | omega | (simp; done) | (simp; omega))))
  rintro ee w10 ⟨rfl, hb10⟩
  have hL10 : Below w9.heap.size w9 w10 := by (repeat' (first | (with_reducible exact Below.refl _ _) | (with_reducible assumption) | (with_reducible refine Below.alloc ?_ ?_ _) | (with_reducible refine Below.drew ?_) | (with_reducible refine below_drewN ?_ _) | (with_reducible refine Below.setCell ?_ ?_ _) | (with_reducible refine chain ?_ (by assumption) ?_) | omega | (simp; done) | (simp; omega)))
  have hz10 := hb10.size
  (try simp only [World.size_alloc] at hz10)
  have hB10 : Below w.heap.size w w10 := chain hB9 hL10 hB9.size
  have k10_0_0 : w10.cell? ⟨w.heap.size, 0, none⟩ = some (.int .i64 g.f0) := (hL10.cell (p := ⟨w.heap.size, 0, none⟩) (by show w.heap.size < w9.heap.size; omega)).trans k9_0_0
  have k10_0_1 : w10.cell? ⟨w.heap.size, 1, none⟩ = some (.int .i64 g.f1) := (hL10.cell (p := ⟨w.heap.size, 1, none⟩) (by show w.heap.size < w9.heap.size; omega)).trans k9_0_1
  have k10_0_2 : w10.cell? ⟨w.heap.size, 2, none⟩ = some (.int .i64 g.f2) := (hL10.cell (p := ⟨w.heap.size, 2, none⟩) (by show w.heap.size < w9.heap.size; omega)).trans k9_0_2
  have k10_1_0 : w10.cell? ⟨w2.heap.size, 0, none⟩ = some (.int .i64 R) := (hL10.cell (p := ⟨w2.heap.size, 0, none⟩) (by show w2.heap.size < w9.heap.size; omega)).trans k9_1_0
  have k10_1_1 : w10.cell? ⟨w2.heap.size, 1, none⟩ = some (.int .i64 R) := (hL10.cell (p := ⟨w2.heap.size, 1, none⟩) (by show w2.heap.size < w9.heap.size; omega)).trans k9_1_1
  have k10_1_2 : w10.cell? ⟨w2.heap.size, 2, none⟩ = some (.slice A3 k cp3) := (hL10.cell (p := ⟨w2.heap.size, 2, none⟩) (by show w2.heap.size < w9.heap.size; omega)).trans k9_1_2
  have k10_2_0 : w10.cell? ⟨w4.heap.size, 0, none⟩ = some (.int .i64 R) := (hL10.cell (p := ⟨w4.heap.size, 0, none⟩) (by show w4.heap.size < w9.heap.size; omega)).trans k9_2_0
  have k10_2_1 : w10.cell? ⟨w4.heap.size, 1, none⟩ = some (.int .i64 R) := (hL10.cell (p := ⟨w4.heap.size, 1, none⟩) (by show w4.heap.size < w9.heap.size; omega)).trans k9_2_1
  have k10_2_2 : w10.cell? ⟨w4.heap.size, 2, none⟩ = some (.slice A6 k cp6) := (hL10.cell (p := ⟨w4.heap.size, 2, none⟩) (by show w4.heap.size < w9.heap.size; omega)).trans k9_2_2
  have k10_3_0 : w10.cell? ⟨w9.heap.size, 0, none⟩ = some (.int .i64 R) := (hb10.cell (p := ⟨w9.heap.size, 0, none⟩) (by show w9.heap.size < _; (try simp only [World.size_alloc]); omega)).trans (by first | rfl | (simp; done) | (simp [*]; done))
  have k10_3_1 : w10.cell? ⟨w9.heap.size, 1, none⟩ = some (.int .i64 R) := (hb10.cell (p := ⟨w9.heap.size, 1, none⟩) (by show w9.heap.size < _; (try simp only [World.size_alloc]); omega)).trans (by first | rfl | (simp; done) | (simp [*]; done))
  have k10_3_2 : w10.cell? ⟨w9.heap.size, 2, none⟩ = some (.slice A13 k cp13) := (hb10.cell (p := ⟨w9.heap.size, 2, none⟩) (by show w9.heap.size < _; (try simp only [World.size_alloc]); omega)).trans (by first | rfl | (simp; done) | (simp [*]; done))
  have bl10_0 : w.heap.size < w10.heap.size := World.block_lt_of_cell? _ _ k10_0_0
  have bl10_1 : w2.heap.size < w10.heap.size := World.block_lt_of_cell? _ _ k10_1_0
  have bl10_2 : w4.heap.size < w10.heap.size := World.block_lt_of_cell? _ _ k10_2_0
  have bl10_3 : w9.heap.size < w10.heap.size := World.block_lt_of_cell? _ _ k10_3_0
  have HW10 := hid (HW9.out.mono hL10)
  have HG10 := hid (HG9.out.mono hL10)
  clear hb10 hL10
  clear k9_0_0 k9_0_1 k9_0_2 k9_1_0 k9_1_1 k9_1_2 k9_2_0 k9_2_1 k9_2_2 HW9 HG9
  go_wp2_with (fail)
  refine (hdm ?_ hk (by decide) (by decide)).mono ?_
  · exact HG10.out.rd.mono (by (repeat' (first | (with_reducible exact Below.refl _ _) | (with_reducible assumption) | (with_reducible refine Below.alloc ?_ ?_ _) | (with_reducible refine Below.drew ?_) | (with_reducible refine below_drewN ?_ _) | (with_reducible refine Below.setCell ?_ ?_ _) | (with_reducible refine chain ?_ (by assumption) ?_) | omega | (simp; done) | (simp; omega))))
  rintro ee w11 ⟨rfl, hb11⟩
  have hL11 : Below w10.heap.size w10 w11 := by (repeat' (first | (with_reducible exact Below.refl _ _) | (with_reducible assumption) | (with_reducible refine Below.alloc ?_ ?_ _) | (with_reducible refine Below.drew ?_) | (with_reducible refine below_drewN ?_ _) | (with_reducible refine Below.setCell ?_ ?_ _) | (with_reducible refine chain ?_ (by assumption) ?_) | omega | (simp; done) | (simp; omega)))
  have hz11 := hb11.size
  (try simp only [World.size_alloc] at hz11)
  have hB11 : Below w.heap.size w w11 := chain hB10 hL11 hB10.size
  have k11_0_0 : w11.cell? ⟨w.heap.size, 0, none⟩ = some (.int .i64 g.f0) := (hL11.cell (p := ⟨w.heap.size, 0, none⟩) (by show w.heap.size < w10.heap.size; omega)).trans k10_0_0
  have k11_0_1 : w11.cell? ⟨w.heap.size, 1, none⟩ = some (.int .i64 g.f1) := (hL11.cell (p := ⟨w.heap.size, 1, none⟩) (by show w.heap.size < w10.heap.size; omega)).trans k10_0_1
  have k11_0_2 : w11.cell? ⟨w.heap.size, 2, none⟩ = some (.int .i64 g.f2) := (hL11.cell (p := ⟨w.heap.size, 2, none⟩) (by show w.heap.size < w10.heap.size; omega)).trans k10_0_2
  have k11_1_0 : w11.cell? ⟨w2.heap.size, 0, none⟩ = some (.int .i64 R) := (hL11.cell (p := ⟨w2.heap.size, 0, none⟩) (by show w2.heap.size < w10.heap.size; omega)).trans k10_1_0
  have k11_1_1 : w11.cell? ⟨w2.heap.size, 1, none⟩ = some (.int .i64 R) := (hL11.cell (p := ⟨w2.heap.size, 1, none⟩) (by show w2.heap.size < w10.heap.size; omega)).trans k10_1_1
  have k11_1_2 : w11.cell? ⟨w2.heap.size, 2, none⟩ = some (.slice A3 k cp3) := (hL11.cell (p := ⟨w2.heap.size, 2, none⟩) (by show w2.heap.size < w10.heap.size; omega)).trans k10_1_2
  have k11_2_0 : w11.cell? ⟨w4.heap.size, 0, none⟩ = some (.int .i64 R) := (hL11.cell (p := ⟨w4.heap.size, 0, none⟩) (by show w4.heap.size < w10.heap.size; omega)).trans k10_2_0
  have k11_2_1 : w11.cell? ⟨w4.heap.size, 1, none⟩ = some (.int .i64 R) := (hL11.cell (p := ⟨w4.heap.size, 1, none⟩) (by show w4.heap.size < w10.heap.size; omega)).trans k10_2_1
  have k11_2_2 : w11.cell? ⟨w4.heap.size, 2, none⟩ = some (.slice A6 k cp6) := (hL11.cell (p := ⟨w4.heap.size, 2, none⟩) (by show w4.heap.size < w10.heap.size; omega)).trans k10_2_2
  have k11_3_0 : w11.cell? ⟨w9.heap.size, 0, none⟩ = some (.int .i64 R) := (hL11.cell (p := ⟨w9.heap.size, 0, none⟩) (by show w9.heap.size < w10.heap.size; omega)).trans k10_3_0
  have k11_3_1 : w11.cell? ⟨w9.heap.size, 1, none⟩ = some (.int .i64 R) := (hL11.cell (p := ⟨w9.heap.size, 1, none⟩) (by show w9.heap.size < w10.heap.size; omega)).trans k10_3_1
  have k11_3_2 : w11.cell? ⟨w9.heap.size, 2, none⟩ = some (.slice A13 k cp13) := (hL11.cell (p := ⟨w9.heap.size, 2, none⟩) (by show w9.heap.size < w10.heap.size; omega)).trans k10_3_2
  have bl11_0 : w.heap.size < w11.heap.size := World.block_lt_of_cell? _ _ k11_0_0
  have bl11_1 : w2.heap.size < w11.heap.size := World.block_lt_of_cell? _ _ k11_1_0
  have bl11_2 : w4.heap.size < w11.heap.size := World.block_lt_of_cell? _ _ k11_2_0
  have bl11_3 : w9.heap.size < w11.heap.size := World.block_lt_of_cell? _ _ k11_3_0
  have HW11 := hid (HW10.out.mono hL11)
  have HG11 := hid (HG10.out.mono hL11)
  clear hb11 hL11
  clear k10_0_0 k10_0_1 k10_0_2 k10_1_0 k10_1_1 k10_1_2 k10_2_0 k10_2_1 k10_2_2 k10_3_0 k10_3_1 k10_3_2 HW10 HG10
  go_wp2_with (fail)
  go_ret
  exact ⟨rfl, hB11⟩

theorem fnExactGateMatrix_walk {n : Int} {g : C4.GateV} {w : World} :
    Calls Try.prog 9 #[.int .i64 n, g.v] w fun ee w' => ee = .returned (.bool true) ∧ Below w.heap.size w w' := by
  cases hv : C4.vgB n g
  · exact lwGateMatrix (R := 0) (k := 0) (zs := []) (ok := false) (fun w => (sg_f hv).mono fun ee w' h => zero_law h) (fun w => (ig_f hv).mono fun ee w' h => zero_lawI h) rfl (by omega)
  · obtain ⟨m, kd, A, B, rfl, rfl, hok⟩ := vg_ok hv
    have h2 : 2 ^ m ≤ 32 := pow_le hok.2.1
    have h5 : 2 ^ m * 2 ^ m ≤ 1024 := Nat.mul_le_mul h2 h2
    exact lwGateMatrix (R := ((2 ^ m : Nat) : Int)) (k := 2 ^ m * 2 ^ m) (zs := tab (2 ^ m * 2 ^ m) (gsF m (2 ^ m) kd A B)) (ok := true)
      (fun w => (sg_t hv hok rfl rfl).mono fun ee w' ⟨Bo, cq, he, hr, ha, hb⟩ => ⟨Bo, cq, he, ⟨hr, ha⟩, hb⟩)
      (fun w => (gm_any hok hv rfl rfl).mono fun ee w' ⟨g, he, hk, hg, hb⟩ => ⟨_, _, he, hk.ow hg, hb⟩)
      (tab_len _ _) (by omega)

end Go.Proofs.Ytncgccpkbneagaa
