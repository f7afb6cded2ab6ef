/- Gj, Gs, LwMc, MuL -/
import Derived.Test.YtofclfgaekjonaaZp25
import Derived.Test.YtofclfgaekjonaaZp24
import Derived.Test.YtofclfgaekjonaaZp22
import Derived.Test.YtofclfgaekjonaaZp27
import Derived.Test.YtofclfgaekjonaaZp18
import Derived.Test.YtofclfgaekjonaaZp20
import Derived.Test.YtofclfgaekjonaaZp14
namespace Go.Proofs.Ytofclfgaekjonaa
open Go.RowKit RM
set_option linter.unusedVariables false
set_option linter.unusedSimpArgs false
attribute [local irreducible] World.setCell

open GM
theorem cbT {α : Type} {a b : Nat} {x y : α} : (bif a.beq b then x else y) = if a = b then x else y := by
  cases h : a.beq b
  · rw [if_neg (fun e => by subst e; simp at h)]; rfl
  · rw [if_pos (Nat.eq_of_beq_eq_true h)]; rfl
theorem run_enter {P : Program} {f : FuncId} {fn : Func} (hf : P.funcs[f]? = some fn) (hn : (fn.name == "runtime.NumGoroutine") = false) (hb : fn.body.isNone = false) (az : Array Value) (W : World) : (callFunc f az).run P W = .ok (.enter f az) W := by
  have hn' : ¬ fn.name = "runtime.NumGoroutine" := by simpa using hn
  have hb' : ¬ fn.body = none := fun h => by rw [h] at hb; cases hb
  simp [callFunc, go_sem, hf, hn', hb']
/-- the matrix of a gate, cell by cell -/
def giF (n D kd A B q : Nat) : D5 := cellC (gI n kd A B (q / D) (q % D))
theorem en_applyX (az : Array Value) (W : World) : (callFunc 150 az).run Try.prog W = .ok (.enter 150 az) W := run_enter (fn := Try.f150) (by kernel_rfl) (by kernel_rfl) (by kernel_rfl) az W
theorem en_applyZ (az : Array Value) (W : World) : (callFunc 152 az).run Try.prog W = .ok (.enter 152 az) W := run_enter (fn := Try.f152) (by kernel_rfl) (by kernel_rfl) (by kernel_rfl) az W
theorem en_applyY (az : Array Value) (W : World) : (callFunc 151 az).run Try.prog W = .ok (.enter 151 az) W := run_enter (fn := Try.f151) (by kernel_rfl) (by kernel_rfl) (by kernel_rfl) az W
theorem en_applyS (az : Array Value) (W : World) : (callFunc 206 az).run Try.prog W = .ok (.enter 206 az) W := run_enter (fn := Try.f206) (by kernel_rfl) (by kernel_rfl) (by kernel_rfl) az W
theorem en_applySdg (az : Array Value) (W : World) : (callFunc 207 az).run Try.prog W = .ok (.enter 207 az) W := run_enter (fn := Try.f207) (by kernel_rfl) (by kernel_rfl) (by kernel_rfl) az W
theorem en_applyT (az : Array Value) (W : World) : (callFunc 208 az).run Try.prog W = .ok (.enter 208 az) W := run_enter (fn := Try.f208) (by kernel_rfl) (by kernel_rfl) (by kernel_rfl) az W
theorem en_applyTdg (az : Array Value) (W : World) : (callFunc 209 az).run Try.prog W = .ok (.enter 209 az) W := run_enter (fn := Try.f209) (by kernel_rfl) (by kernel_rfl) (by kernel_rfl) az W
theorem en_applyCX (az : Array Value) (W : World) : (callFunc 210 az).run Try.prog W = .ok (.enter 210 az) W := run_enter (fn := Try.f210) (by kernel_rfl) (by kernel_rfl) (by kernel_rfl) az W
theorem en_applyCZ (az : Array Value) (W : World) : (callFunc 211 az).run Try.prog W = .ok (.enter 211 az) W := run_enter (fn := Try.f211) (by kernel_rfl) (by kernel_rfl) (by kernel_rfl) az W
theorem en_applySwap (az : Array Value) (W : World) : (callFunc 212 az).run Try.prog W = .ok (.enter 212 az) W := run_enter (fn := Try.f212) (by kernel_rfl) (by kernel_rfl) (by kernel_rfl) az W
theorem en_applyW (az : Array Value) (W : World) : (callFunc 213 az).run Try.prog W = .ok (.enter 213 az) W := run_enter (fn := Try.f213) (by kernel_rfl) (by kernel_rfl) (by kernel_rfl) az W

set_option maxRecDepth 100000 in
set_option maxHeartbeats 2000000 in
theorem gm1 {n D NN kd A B : Nat} {Kf : FuncId} {ph : Nat → Int} {w : World} (hv : C4.vgB (n : Int) ⟨(kd : Int), (A : Int), (B : Int)⟩ = true) (h1 : 1 ≤ n) (h5 : n ≤ 5) (hD : D = 2 ^ n) (hNN : NN = D * D)
    (hT : ∀ W : World, Calls Try.prog 197 #[.int .i64 (kd : Int)] W fun ee w' => ∃ g : Nat, ee = .returned (.slice (some ⟨g, 0, none⟩) 1 1) ∧ Bx w' g 210 #[.func (.func Kf) #[] #[]] ∧ W.heap.size ≤ g ∧ Below W.heap.size W w')
    (hF : ∀ c (W : World), c < D → Calls Try.prog Kf #[.agg #[.int .i64 (n : Int), .int .i64 (c : Int), .int .i64 0], .agg #[.int .i64 (kd : Int), .int .i64 (A : Int), .int .i64 (B : Int)]] W fun ee w' => ee = .returned (.agg #[.int .i64 (n : Int), .int .i64 (((act n kd A B c).1 : Nat) : Int), .int .i64 (ph c)]) ∧ Below W.heap.size W w')
    (hEn : ∀ (az : Array Value) (W : World), (callFunc Kf az).run Try.prog W = .ok (.enter Kf az) W)
    (hFD : ∀ c, c < D → (act n kd A B c).1 < D)
    (hP : ∀ c, c < D → -1000 ≤ ph c ∧ ph c ≤ 1000 ∧ ph c % 8 = (((act n kd A B c).2 : Nat) : Int) ∧ (act n kd A B c).2 < 8)
    (hg : ∀ r c, gI n kd A B r c = bif r.beq (act n kd A B c).1 then 1 + (act n kd A B c).2 % 8 else 0) :
    Calls Try.prog 163 #[.int .i64 (n : Int), .agg #[.int .i64 (kd : Int), .int .i64 (A : Int), .int .i64 (B : Int)]] w fun ee w' => ∃ g : Nat, ee = .returned (mt (D : Int) (D : Int) (some ⟨g, 0, none⟩) NN NN true) ∧ Bk w' g 99 (tab NN (giF n D kd A B)) ∧ w.heap.size ≤ g ∧ Below w.heap.size w w' := by
  have z0 : ∀ t, t < 1 → t = 0 := by omega
  refine (gm_i (L := 1) (e := 0) (F := fun _ c => (act n kd A B c).1) (M := fun _ c => (act n kd A B c).2) (P := fun _ c => ph c) (Kf := fun _ => Kf) (cs := #[.func (.func Kf) #[] #[]]) hv h1 h5 hD hNN rfl (by decide) hT (fun t ht => by rw [z0 t ht]; rfl) (fun t c W _ hc => hF c W hc) (fun t az W _ => hEn az W) (fun t c _ hc => hFD c hc) (fun t c _ hc => hP c hc)).mono fun ee w' ⟨g, he, hk, hgg, hb⟩ => ⟨g, he, ?_, hgg, hb⟩
  have e : tab NN (gP (fun _ c => (act n kd A B c).1) (fun _ c => (act n kd A B c).2) 0 D 1 D 0) = tab NN (giF n D kd A B) := by
    have d0 : 0 < D := by rw [hD]; exact Nat.two_pow_pos n
    rw [gP_all d0]
    refine tab_congr (fun q hq => ?_)
    have hc : q % D < D := Nat.mod_lt _ d0
    obtain ⟨_, _, _, h8⟩ := hP _ hc
    unfold giF
    rw [hg, cbT]
    show (if q / D = (act n kd A B (q % D)).1 then cellD _ 0 else z5) = _
    by_cases h : q / D = (act n kd A B (q % D)).1
    · rw [if_pos h, if_pos h, Nat.mod_eq_of_lt h8]
      exact (cellC_at (e := 0) h8).symm
    · rw [if_neg h, if_neg h]; rfl
  rw [← e]; exact hk

set_option maxRecDepth 100000 in
set_option maxHeartbeats 2000000 in
theorem gmk_2 {n D NN A B : Nat} {w : World} (hv : C4.vgB (n : Int) ⟨((2 : Nat) : Int), (A : Int), (B : Int)⟩ = true) (h1 : 1 ≤ n) (h5 : n ≤ 5) (hD : D = 2 ^ n) (hNN : NN = D * D) (hA : A < n) :
    Calls Try.prog 163 #[.int .i64 (n : Int), .agg #[.int .i64 ((2 : Nat) : Int), .int .i64 (A : Int), .int .i64 (B : Int)]] w fun ee w' => ∃ g : Nat, ee = .returned (mt (D : Int) (D : Int) (some ⟨g, 0, none⟩) NN NN true) ∧ Bk w' g 99 (tab NN (giF n D 2 A B)) ∧ w.heap.size ≤ g ∧ Below w.heap.size w w' := by
  refine gm1 (Kf := 150) (ph := fun c => 0) hv h1 h5 hD hNN (fun W => te_2) ?_ en_applyX ?_ ?_ ?_
  · intro c W hc
    rw [hD] at hc
    exact kapplyX h5 hA hc (by decide) (by decide)
  · intro c hc
    rw [hD] at hc ⊢
    exact flip_lt hc hA
  · intro c hc
    show -1000 ≤ (0 : Int) ∧ (0 : Int) ≤ 1000 ∧ (0 : Int) % 8 = ((0 : Nat) : Int) ∧ (0 : Nat) < 8
    decide
  · intro r c; rfl

set_option maxRecDepth 100000 in
set_option maxHeartbeats 2000000 in
theorem gmk_3 {n D NN A B : Nat} {w : World} (hv : C4.vgB (n : Int) ⟨((3 : Nat) : Int), (A : Int), (B : Int)⟩ = true) (h1 : 1 ≤ n) (h5 : n ≤ 5) (hD : D = 2 ^ n) (hNN : NN = D * D) (hA : A < n) :
    Calls Try.prog 163 #[.int .i64 (n : Int), .agg #[.int .i64 ((3 : Nat) : Int), .int .i64 (A : Int), .int .i64 (B : Int)]] w fun ee w' => ∃ g : Nat, ee = .returned (mt (D : Int) (D : Int) (some ⟨g, 0, none⟩) NN NN true) ∧ Bk w' g 99 (tab NN (giF n D 3 A B)) ∧ w.heap.size ≤ g ∧ Below w.heap.size w w' := by
  refine gm1 (Kf := 151) (ph := fun c => 0 + 4 * ((bitI n c A : Nat) : Int) + 2) hv h1 h5 hD hNN (fun W => te_3) ?_ en_applyY ?_ ?_ ?_
  · intro c W hc
    rw [hD] at hc
    exact kapplyY h5 hA hc (by decide) (by decide)
  · intro c hc
    rw [hD] at hc ⊢
    exact flip_lt hc hA
  · intro c hc
    show -1000 ≤ (0 + 4 * ((bitI n c A : Nat) : Int) + 2 : Int) ∧ (0 + 4 * ((bitI n c A : Nat) : Int) + 2 : Int) ≤ 1000 ∧ (0 + 4 * ((bitI n c A : Nat) : Int) + 2 : Int) % 8 = ((4 * bitI n c A + 2 : Nat) : Int) ∧ 4 * bitI n c A + 2 < 8
    rcases bitI_01 (n := n) (c := c) (q := A) with h | h <;> rw [h] <;> exact ⟨by decide, by decide, by decide, by decide⟩
  · intro r c; rfl

set_option maxRecDepth 100000 in
set_option maxHeartbeats 2000000 in
theorem gmk_4 {n D NN A B : Nat} {w : World} (hv : C4.vgB (n : Int) ⟨((4 : Nat) : Int), (A : Int), (B : Int)⟩ = true) (h1 : 1 ≤ n) (h5 : n ≤ 5) (hD : D = 2 ^ n) (hNN : NN = D * D) (hA : A < n) :
    Calls Try.prog 163 #[.int .i64 (n : Int), .agg #[.int .i64 ((4 : Nat) : Int), .int .i64 (A : Int), .int .i64 (B : Int)]] w fun ee w' => ∃ g : Nat, ee = .returned (mt (D : Int) (D : Int) (some ⟨g, 0, none⟩) NN NN true) ∧ Bk w' g 99 (tab NN (giF n D 4 A B)) ∧ w.heap.size ≤ g ∧ Below w.heap.size w w' := by
  refine gm1 (Kf := 152) (ph := fun c => 0 + 4 * ((bitI n c A : Nat) : Int)) hv h1 h5 hD hNN (fun W => te_4) ?_ en_applyZ ?_ ?_ ?_
  · intro c W hc
    rw [hD] at hc
    exact kapplyZ h5 hA hc (by decide) (by decide)
  · intro c hc
    rw [hD] at hc ⊢
    exact hc
  · intro c hc
    show -1000 ≤ (0 + 4 * ((bitI n c A : Nat) : Int) : Int) ∧ (0 + 4 * ((bitI n c A : Nat) : Int) : Int) ≤ 1000 ∧ (0 + 4 * ((bitI n c A : Nat) : Int) : Int) % 8 = ((4 * bitI n c A : Nat) : Int) ∧ 4 * bitI n c A < 8
    rcases bitI_01 (n := n) (c := c) (q := A) with h | h <;> rw [h] <;> exact ⟨by decide, by decide, by decide, by decide⟩
  · intro r c; rfl

set_option maxRecDepth 100000 in
set_option maxHeartbeats 2000000 in
theorem gmk_5 {n D NN A B : Nat} {w : World} (hv : C4.vgB (n : Int) ⟨((5 : Nat) : Int), (A : Int), (B : Int)⟩ = true) (h1 : 1 ≤ n) (h5 : n ≤ 5) (hD : D = 2 ^ n) (hNN : NN = D * D) (hA : A < n) :
    Calls Try.prog 163 #[.int .i64 (n : Int), .agg #[.int .i64 ((5 : Nat) : Int), .int .i64 (A : Int), .int .i64 (B : Int)]] w fun ee w' => ∃ g : Nat, ee = .returned (mt (D : Int) (D : Int) (some ⟨g, 0, none⟩) NN NN true) ∧ Bk w' g 99 (tab NN (giF n D 5 A B)) ∧ w.heap.size ≤ g ∧ Below w.heap.size w w' := by
  refine gm1 (Kf := 206) (ph := fun c => 0 + 2 * ((bitI n c A : Nat) : Int)) hv h1 h5 hD hNN (fun W => te_5) ?_ en_applyS ?_ ?_ ?_
  · intro c W hc
    rw [hD] at hc
    exact kapplyS h5 hA hc (by decide) (by decide)
  · intro c hc
    rw [hD] at hc ⊢
    exact hc
  · intro c hc
    show -1000 ≤ (0 + 2 * ((bitI n c A : Nat) : Int) : Int) ∧ (0 + 2 * ((bitI n c A : Nat) : Int) : Int) ≤ 1000 ∧ (0 + 2 * ((bitI n c A : Nat) : Int) : Int) % 8 = ((2 * bitI n c A : Nat) : Int) ∧ 2 * bitI n c A < 8
    rcases bitI_01 (n := n) (c := c) (q := A) with h | h <;> rw [h] <;> exact ⟨by decide, by decide, by decide, by decide⟩
  · intro r c; rfl

set_option maxRecDepth 100000 in
set_option maxHeartbeats 2000000 in
theorem gmk_6 {n D NN A B : Nat} {w : World} (hv : C4.vgB (n : Int) ⟨((6 : Nat) : Int), (A : Int), (B : Int)⟩ = true) (h1 : 1 ≤ n) (h5 : n ≤ 5) (hD : D = 2 ^ n) (hNN : NN = D * D) (hA : A < n) :
    Calls Try.prog 163 #[.int .i64 (n : Int), .agg #[.int .i64 ((6 : Nat) : Int), .int .i64 (A : Int), .int .i64 (B : Int)]] w fun ee w' => ∃ g : Nat, ee = .returned (mt (D : Int) (D : Int) (some ⟨g, 0, none⟩) NN NN true) ∧ Bk w' g 99 (tab NN (giF n D 6 A B)) ∧ w.heap.size ≤ g ∧ Below w.heap.size w w' := by
  refine gm1 (Kf := 207) (ph := fun c => 0 + -2 * ((bitI n c A : Nat) : Int)) hv h1 h5 hD hNN (fun W => te_6) ?_ en_applySdg ?_ ?_ ?_
  · intro c W hc
    rw [hD] at hc
    exact kapplySdg h5 hA hc (by decide) (by decide)
  · intro c hc
    rw [hD] at hc ⊢
    exact hc
  · intro c hc
    show -1000 ≤ (0 + -2 * ((bitI n c A : Nat) : Int) : Int) ∧ (0 + -2 * ((bitI n c A : Nat) : Int) : Int) ≤ 1000 ∧ (0 + -2 * ((bitI n c A : Nat) : Int) : Int) % 8 = (((8 - 2 * bitI n c A) % 8 : Nat) : Int) ∧ (8 - 2 * bitI n c A) % 8 < 8
    rcases bitI_01 (n := n) (c := c) (q := A) with h | h <;> rw [h] <;> exact ⟨by decide, by decide, by decide, by decide⟩
  · intro r c; rfl

set_option maxRecDepth 100000 in
set_option maxHeartbeats 2000000 in
theorem gmk_7 {n D NN A B : Nat} {w : World} (hv : C4.vgB (n : Int) ⟨((7 : Nat) : Int), (A : Int), (B : Int)⟩ = true) (h1 : 1 ≤ n) (h5 : n ≤ 5) (hD : D = 2 ^ n) (hNN : NN = D * D) (hA : A < n) :
    Calls Try.prog 163 #[.int .i64 (n : Int), .agg #[.int .i64 ((7 : Nat) : Int), .int .i64 (A : Int), .int .i64 (B : Int)]] w fun ee w' => ∃ g : Nat, ee = .returned (mt (D : Int) (D : Int) (some ⟨g, 0, none⟩) NN NN true) ∧ Bk w' g 99 (tab NN (giF n D 7 A B)) ∧ w.heap.size ≤ g ∧ Below w.heap.size w w' := by
  refine gm1 (Kf := 208) (ph := fun c => 0 + ((bitI n c A : Nat) : Int)) hv h1 h5 hD hNN (fun W => te_7) ?_ en_applyT ?_ ?_ ?_
  · intro c W hc
    rw [hD] at hc
    exact kapplyT h5 hA hc (by decide) (by decide)
  · intro c hc
    rw [hD] at hc ⊢
    exact hc
  · intro c hc
    show -1000 ≤ (0 + ((bitI n c A : Nat) : Int) : Int) ∧ (0 + ((bitI n c A : Nat) : Int) : Int) ≤ 1000 ∧ (0 + ((bitI n c A : Nat) : Int) : Int) % 8 = ((bitI n c A : Nat) : Int) ∧ bitI n c A < 8
    rcases bitI_01 (n := n) (c := c) (q := A) with h | h <;> rw [h] <;> exact ⟨by decide, by decide, by decide, by decide⟩
  · intro r c; rfl

set_option maxRecDepth 100000 in
set_option maxHeartbeats 2000000 in
theorem gmk_8 {n D NN A B : Nat} {w : World} (hv : C4.vgB (n : Int) ⟨((8 : Nat) : Int), (A : Int), (B : Int)⟩ = true) (h1 : 1 ≤ n) (h5 : n ≤ 5) (hD : D = 2 ^ n) (hNN : NN = D * D) (hA : A < n) :
    Calls Try.prog 163 #[.int .i64 (n : Int), .agg #[.int .i64 ((8 : Nat) : Int), .int .i64 (A : Int), .int .i64 (B : Int)]] w fun ee w' => ∃ g : Nat, ee = .returned (mt (D : Int) (D : Int) (some ⟨g, 0, none⟩) NN NN true) ∧ Bk w' g 99 (tab NN (giF n D 8 A B)) ∧ w.heap.size ≤ g ∧ Below w.heap.size w w' := by
  refine gm1 (Kf := 209) (ph := fun c => 0 + -((bitI n c A : Nat) : Int)) hv h1 h5 hD hNN (fun W => te_8) ?_ en_applyTdg ?_ ?_ ?_
  · intro c W hc
    rw [hD] at hc
    exact kapplyTdg h5 hA hc (by decide) (by decide)
  · intro c hc
    rw [hD] at hc ⊢
    exact hc
  · intro c hc
    show -1000 ≤ (0 + -((bitI n c A : Nat) : Int) : Int) ∧ (0 + -((bitI n c A : Nat) : Int) : Int) ≤ 1000 ∧ (0 + -((bitI n c A : Nat) : Int) : Int) % 8 = (((8 - bitI n c A) % 8 : Nat) : Int) ∧ (8 - bitI n c A) % 8 < 8
    rcases bitI_01 (n := n) (c := c) (q := A) with h | h <;> rw [h] <;> exact ⟨by decide, by decide, by decide, by decide⟩
  · intro r c; rfl

set_option maxRecDepth 100000 in
set_option maxHeartbeats 2000000 in
theorem gmk_9 {n D NN A B : Nat} {w : World} (hv : C4.vgB (n : Int) ⟨((9 : Nat) : Int), (A : Int), (B : Int)⟩ = true) (h1 : 1 ≤ n) (h5 : n ≤ 5) (hD : D = 2 ^ n) (hNN : NN = D * D) (hA : A < n) (hB : B < n) :
    Calls Try.prog 163 #[.int .i64 (n : Int), .agg #[.int .i64 ((9 : Nat) : Int), .int .i64 (A : Int), .int .i64 (B : Int)]] w fun ee w' => ∃ g : Nat, ee = .returned (mt (D : Int) (D : Int) (some ⟨g, 0, none⟩) NN NN true) ∧ Bk w' g 99 (tab NN (giF n D 9 A B)) ∧ w.heap.size ≤ g ∧ Below w.heap.size w w' := by
  refine gm1 (Kf := 210) (ph := fun c => 0) hv h1 h5 hD hNN (fun W => te_9) ?_ en_applyCX ?_ ?_ ?_
  · intro c W hc
    rw [hD] at hc
    show Calls _ _ _ _ fun ee w' => ee = .returned (.agg #[.int .i64 (n : Int), .int .i64 (((bif (bitI n c A).beq 0 then c else c ^^^ msk n B) : Nat) : Int), .int .i64 0]) ∧ _
    rcases bitI_01 (n := n) (c := c) (q := A) with h | h
    · rw [h]; exact kapplyCX_0 h5 hA hB h hc (by decide) (by decide)
    · rw [h]; exact kapplyCX_1 h5 hA hB h hc (by decide) (by decide)
  · intro c hc
    rw [hD] at hc ⊢
    show (bif (bitI n c A).beq 0 then c else c ^^^ msk n B) < _
    rw [cbT]; split
    · exact hc
    · exact flip_lt hc hB
  · intro c hc
    show -1000 ≤ (0 : Int) ∧ (0 : Int) ≤ 1000 ∧ (0 : Int) % 8 = ((0 : Nat) : Int) ∧ (0 : Nat) < 8
    decide
  · intro r c; rfl

set_option maxRecDepth 100000 in
set_option maxHeartbeats 2000000 in
theorem gmk_10 {n D NN A B : Nat} {w : World} (hv : C4.vgB (n : Int) ⟨((10 : Nat) : Int), (A : Int), (B : Int)⟩ = true) (h1 : 1 ≤ n) (h5 : n ≤ 5) (hD : D = 2 ^ n) (hNN : NN = D * D) (hA : A < n) (hB : B < n) :
    Calls Try.prog 163 #[.int .i64 (n : Int), .agg #[.int .i64 ((10 : Nat) : Int), .int .i64 (A : Int), .int .i64 (B : Int)]] w fun ee w' => ∃ g : Nat, ee = .returned (mt (D : Int) (D : Int) (some ⟨g, 0, none⟩) NN NN true) ∧ Bk w' g 99 (tab NN (giF n D 10 A B)) ∧ w.heap.size ≤ g ∧ Below w.heap.size w w' := by
  refine gm1 (Kf := 211) (ph := fun c => 0 + ((4 * bitI n c A * bitI n c B : Nat) : Int)) hv h1 h5 hD hNN (fun W => te_10) ?_ en_applyCZ ?_ ?_ ?_
  · intro c W hc
    rw [hD] at hc
    exact kapplyCZ h5 hA hB hc (by decide) (by decide)
  · intro c hc
    rw [hD] at hc ⊢
    exact hc
  · intro c hc
    show -1000 ≤ (0 + ((4 * bitI n c A * bitI n c B : Nat) : Int) : Int) ∧ _ ∧ (0 + ((4 * bitI n c A * bitI n c B : Nat) : Int) : Int) % 8 = ((4 * bitI n c A * bitI n c B : Nat) : Int) ∧ 4 * bitI n c A * bitI n c B < 8
    rcases bitI_01 (n := n) (c := c) (q := A) with h | h <;> rcases bitI_01 (n := n) (c := c) (q := B) with h' | h' <;> rw [h, h'] <;> exact ⟨by decide, by decide, by decide, by decide⟩
  · intro r c; rfl

set_option maxRecDepth 100000 in
set_option maxHeartbeats 2000000 in
theorem gmk_11 {n D NN A B : Nat} {w : World} (hv : C4.vgB (n : Int) ⟨((11 : Nat) : Int), (A : Int), (B : Int)⟩ = true) (h1 : 1 ≤ n) (h5 : n ≤ 5) (hD : D = 2 ^ n) (hNN : NN = D * D) (hA : A < n) (hB : B < n) :
    Calls Try.prog 163 #[.int .i64 (n : Int), .agg #[.int .i64 ((11 : Nat) : Int), .int .i64 (A : Int), .int .i64 (B : Int)]] w fun ee w' => ∃ g : Nat, ee = .returned (mt (D : Int) (D : Int) (some ⟨g, 0, none⟩) NN NN true) ∧ Bk w' g 99 (tab NN (giF n D 11 A B)) ∧ w.heap.size ≤ g ∧ Below w.heap.size w w' := by
  refine gm1 (Kf := 212) (ph := fun c => 0) hv h1 h5 hD hNN (fun W => te_11) ?_ en_applySwap ?_ ?_ ?_
  · intro c W hc
    rw [hD] at hc
    show Calls _ _ _ _ fun ee w' => ee = .returned (.agg #[.int .i64 (n : Int), .int .i64 (((bif (bitI n c A).beq (bitI n c B) then c else c ^^^ msk n A ^^^ msk n B) : Nat) : Int), .int .i64 0]) ∧ _
    rw [cbT]
    by_cases h : bitI n c A = bitI n c B
    · rw [if_pos h]; exact kapplySwap_e h5 hA hB h hc (by decide) (by decide)
    · rw [if_neg h]; exact kapplySwap_n h5 hA hB h hc (by decide) (by decide)
  · intro c hc
    rw [hD] at hc ⊢
    show (bif (bitI n c A).beq (bitI n c B) then c else c ^^^ msk n A ^^^ msk n B) < _
    rw [cbT]; split
    · exact hc
    · exact flip_lt (flip_lt hc hA) hB
  · intro c hc
    show -1000 ≤ (0 : Int) ∧ (0 : Int) ≤ 1000 ∧ (0 : Int) % 8 = ((0 : Nat) : Int) ∧ (0 : Nat) < 8
    decide
  · intro r c; rfl

set_option maxRecDepth 100000 in
set_option maxHeartbeats 2000000 in
theorem gmk_12 {n D NN A B : Nat} {w : World} (hv : C4.vgB (n : Int) ⟨((12 : Nat) : Int), (A : Int), (B : Int)⟩ = true) (h1 : 1 ≤ n) (h5 : n ≤ 5) (hD : D = 2 ^ n) (hNN : NN = D * D) (hA : A < n) :
    Calls Try.prog 163 #[.int .i64 (n : Int), .agg #[.int .i64 ((12 : Nat) : Int), .int .i64 (A : Int), .int .i64 (B : Int)]] w fun ee w' => ∃ g : Nat, ee = .returned (mt (D : Int) (D : Int) (some ⟨g, 0, none⟩) NN NN true) ∧ Bk w' g 99 (tab NN (giF n D 12 A B)) ∧ w.heap.size ≤ g ∧ Below w.heap.size w w' := by
  refine gm1 (Kf := 213) (ph := fun c => 0 + 1) hv h1 h5 hD hNN (fun W => te_12) ?_ en_applyW ?_ ?_ ?_
  · intro c W hc
    rw [hD] at hc
    exact kapplyW h5 hA hc (by decide) (by decide)
  · intro c hc
    rw [hD] at hc ⊢
    exact hc
  · intro c hc
    show -1000 ≤ (0 + 1 : Int) ∧ (0 + 1 : Int) ≤ 1000 ∧ (0 + 1 : Int) % 8 = ((1 : Nat) : Int) ∧ (1 : Nat) < 8
    decide
  · intro r c; rfl

set_option maxRecDepth 100000 in
set_option maxHeartbeats 2000000 in
theorem gmk_1 {n D NN A B : Nat} {w : World} (hv : C4.vgB (n : Int) ⟨((1 : Nat) : Int), (A : Int), (B : Int)⟩ = true) (h1 : 1 ≤ n) (h5 : n ≤ 5) (hD : D = 2 ^ n) (hNN : NN = D * D) (hA : A < n) :
    Calls Try.prog 163 #[.int .i64 (n : Int), .agg #[.int .i64 ((1 : Nat) : Int), .int .i64 (A : Int), .int .i64 (B : Int)]] w fun ee w' => ∃ g : Nat, ee = .returned (mt (D : Int) (D : Int) (some ⟨g, 0, none⟩) NN NN true) ∧ Bk w' g 99 (tab NN (giF n D 1 A B)) ∧ w.heap.size ≤ g ∧ Below w.heap.size w w' := by
  have z01 : ∀ t, t < 2 → t = 0 ∨ t = 1 := by omega
  refine (gm_i (L := 2) (e := 1) (F := fun t c => if t = 0 then c ^^^ msk n A else c) (M := fun t c => if t = 0 then 0 else 4 * bitI n c A) (P := fun t c => if t = 0 then 0 else 0 + 4 * ((bitI n c A : Nat) : Int)) (Kf := fun t => if t = 0 then 150 else 152) (cs := #[.func (.func 150) #[] #[], .func (.func 152) #[] #[]]) hv h1 h5 hD hNN rfl (by decide) (fun W => te_1) ?_ ?_ ?_ ?_ ?_).mono fun ee w' ⟨g, he, hk, hgg, hb⟩ => ⟨g, he, ?_, hgg, hb⟩
  · intro t ht
    rcases z01 t ht with rfl | rfl <;> rfl
  · intro t c W ht hc
    rw [hD] at hc
    rcases z01 t ht with rfl | rfl
    · exact kapplyX h5 hA hc (by decide) (by decide)
    · exact kapplyZ h5 hA hc (by decide) (by decide)
  · intro t az W ht
    rcases z01 t ht with rfl | rfl
    · exact en_applyX az W
    · exact en_applyZ az W
  · intro t c ht hc
    rw [hD] at hc ⊢
    rcases z01 t ht with rfl | rfl
    · exact flip_lt hc hA
    · exact hc
  · intro t c ht hc
    rcases z01 t ht with rfl | rfl
    · show -1000 ≤ (0 : Int) ∧ (0 : Int) ≤ 1000 ∧ (0 : Int) % 8 = ((0 : Nat) : Int) ∧ (0 : Nat) < 8
      decide
    · show -1000 ≤ (0 + 4 * ((bitI n c A : Nat) : Int)) ∧ (0 + 4 * ((bitI n c A : Nat) : Int)) ≤ 1000 ∧ (0 + 4 * ((bitI n c A : Nat) : Int)) % 8 = ((4 * bitI n c A : Nat) : Int) ∧ 4 * bitI n c A < 8
      rcases bitI_01 (n := n) (c := c) (q := A) with h | h <;> rw [h] <;> exact ⟨by decide, by decide, by decide, by decide⟩
  have d0 : 0 < D := by rw [hD]; exact Nat.two_pow_pos n
  rw [gP_all d0] at hk
  refine Eq.mp (congrArg (Bk w' g 99) (tab_congr (fun q hq => ?_))) hk
  show (if q / D = q % D then cellD (4 * bitI n (q % D) A) 1 else if q / D = (q % D) ^^^ msk n A then cellD 0 1 else z5) = cellC (bif (q / D).beq (q % D) then 9 + 4 * bitI n (q % D) A else bif (q / D).beq ((q % D) ^^^ msk n A) then 9 else 0)
  rw [cbT, cbT]
  by_cases h : q / D = q % D
  · rw [if_pos h, if_pos h]
    rcases bitI_01 (n := n) (c := q % D) (q := A) with h2 | h2 <;> rw [h2]
    · exact (cellC_at (m := 0) (e := 1) (by decide)).symm
    · exact (cellC_at (m := 4) (e := 1) (by decide)).symm
  · rw [if_neg h, if_neg h]
    by_cases h2 : q / D = (q % D) ^^^ msk n A
    · rw [if_pos h2, if_pos h2]; exact (cellC_at (m := 0) (e := 1) (by decide)).symm
    · rw [if_neg h2, if_neg h2]; rfl

theorem gm_any {n D NN kd A B : Nat} {w : World} (hok : okG n kd A B) (hv : C4.vgB (n : Int) ⟨(kd : Int), (A : Int), (B : Int)⟩ = true) (hD : D = 2 ^ n) (hNN : NN = D * D) :
    Calls Try.prog 163 #[.int .i64 (n : Int), .agg #[.int .i64 (kd : Int), .int .i64 (A : Int), .int .i64 (B : Int)]] w fun ee w' => ∃ g : Nat, ee = .returned (mt (D : Int) (D : Int) (some ⟨g, 0, none⟩) NN NN true) ∧ Bk w' g 99 (tab NN (gsF n D kd A B)) ∧ w.heap.size ≤ g ∧ Below w.heap.size w w' := by
  have e : tab NN (gsF n D kd A B) = tab NN (giF n D kd A B) := by
    have d0 : 0 < D := by rw [hD]; exact Nat.two_pow_pos n
    refine tab_congr (fun q hq => ?_)
    unfold gsF giF
    rw [gI_gS hok (by rw [← hD]; exact Nat.div_lt_of_lt_mul (by rw [← hNN]; exact hq)) (by rw [← hD]; exact Nat.mod_lt _ d0)]
  rw [e]
  obtain ⟨h1, h5, h3⟩ := hok
  rcases h3 with ⟨k1, k8, hA, hB⟩ | ⟨k9, k11, hA, hB, hne⟩ | ⟨rfl, hA, hB⟩
  · have : kd = 1 ∨ kd = 2 ∨ kd = 3 ∨ kd = 4 ∨ kd = 5 ∨ kd = 6 ∨ kd = 7 ∨ kd = 8 := by omega
    rcases this with rfl | rfl | rfl | rfl | rfl | rfl | rfl | rfl
    · exact gmk_1 hv h1 h5 hD hNN hA
    · exact gmk_2 hv h1 h5 hD hNN hA
    · exact gmk_3 hv h1 h5 hD hNN hA
    · exact gmk_4 hv h1 h5 hD hNN hA
    · exact gmk_5 hv h1 h5 hD hNN hA
    · exact gmk_6 hv h1 h5 hD hNN hA
    · exact gmk_7 hv h1 h5 hD hNN hA
    · exact gmk_8 hv h1 h5 hD hNN hA
  · have : kd = 9 ∨ kd = 10 ∨ kd = 11 := by omega
    rcases this with rfl | rfl | rfl
    · exact gmk_9 hv h1 h5 hD hNN hA hB
    · exact gmk_10 hv h1 h5 hD hNN hA hB
    · exact gmk_11 hv h1 h5 hD hNN hA hB
  · exact gmk_12 hv h1 h5 hD hNN (by omega)
end Go.Proofs.Ytofclfgaekjonaa
namespace Go.Proofs.Ytofclfgaekjonaa
open Go.RowKit RM
set_option linter.unusedVariables false
set_option linter.unusedSimpArgs false
attribute [local irreducible] World.setCell

open GM
theorem vg_ok {n : Int} {g : C4.GateV} (h : C4.vgB n g = true) : ∃ m kd A B : Nat, n = (m : Int) ∧ g = ⟨(kd : Int), (A : Int), (B : Int)⟩ ∧ okG m kd A B := by
  unfold C4.vgB at h
  rw [Bool.and_eq_true, C4.inB_iff] at h
  obtain ⟨⟨n1, n5⟩, hg⟩ := h
  obtain ⟨k, a, b⟩ := g
  cases h8 : C4.inB k 1 8
  · cases h11 : C4.inB k 9 11
    · rw [C4.gB_12 h8 h11, Bool.and_eq_true, Bool.and_eq_true, decide_eq_true_eq, decide_eq_true_eq, decide_eq_true_eq] at hg
      obtain ⟨⟨h1, h2⟩, h3⟩ := hg
      dsimp only at h1 h2 h3
      refine ⟨n.toNat, 12, 0, 0, by omega, ?_, by omega, by omega, Or.inr (Or.inr ⟨rfl, rfl, rfl⟩)⟩
      rw [h1, h2, h3]; rfl
    · rw [C4.gB_11 h11, Bool.and_eq_true, Bool.and_eq_true, C4.inB_iff, C4.inB_iff, decide_eq_true_eq] at hg
      obtain ⟨⟨⟨h1, h2⟩, h3, h4⟩, h5⟩ := hg
      have h6 := C4.inB_iff.1 h11
      dsimp only at h1 h2 h3 h4 h5 h6
      refine ⟨n.toNat, k.toNat, a.toNat, b.toNat, by omega, ?_, by omega, by omega, Or.inr (Or.inl ⟨by omega, by omega, by omega, by omega, by omega⟩)⟩
      rw [Int.toNat_of_nonneg (by omega), Int.toNat_of_nonneg (by omega), Int.toNat_of_nonneg (by omega)]
  · rw [C4.gB_8 h8, Bool.and_eq_true, C4.inB_iff, decide_eq_true_eq] at hg
    obtain ⟨⟨h1, h2⟩, h3⟩ := hg
    have h6 := C4.inB_iff.1 h8
    dsimp only at h1 h2 h3 h6
    refine ⟨n.toNat, k.toNat, a.toNat, 0, by omega, ?_, by omega, by omega, Or.inl ⟨by omega, by omega, by omega, rfl⟩⟩
    rw [Int.toNat_of_nonneg (by omega), Int.toNat_of_nonneg (by omega), h3]; rfl

end Go.Proofs.Ytofclfgaekjonaa
namespace Go.Proofs.Ytofclfgaekjonaa
open Go.RowKit RM
set_option linter.unusedVariables false
set_option linter.unusedSimpArgs false
attribute [local irreducible] World.setCell

end Go.Proofs.Ytofclfgaekjonaa
namespace Go.Proofs.Ytofclfgaekjonaa
open Go.RowKit RM
set_option linter.unusedVariables false
set_option linter.unusedSimpArgs false
attribute [local irreducible] World.setCell

end Go.Proofs.Ytofclfgaekjonaa
