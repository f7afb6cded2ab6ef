/- E8t, E8u, E8v -/
import Derived.Test.YtjedpeoafpljhaaPtv
import Derived.Test.YtjedpeoafpljhaaPim
import Derived.Test.YtjedpeoafpljhaaPc
import Derived.Test.YtjedpeoafpljhaaPio
import Derived.Test.YtjedpeoafpljhaaE8h
namespace Go.Proofs.Ytjedpeoafpljhaa.C4
open Go.RowKit
set_option linter.unusedVariables false
set_option linter.unusedSimpArgs false
attribute [local irreducible] World.setCell

/-- do two states anticommute? -/
def ac2 (s t : St) : Bool := acB s.2.1 s.2.2 t.2.1 t.2.2
theorem pc_xor (u v : Nat) : pc (u ^^^ v) % 2 = (pc u + pc v) % 2 := by
  have e : ∀ y, pc y = bt y 0 + bt y 1 + bt y 2 + bt y 3 + bt y 4 := fun _ => rfl
  have h : ∀ q, bt (u ^^^ v) q % 2 = (bt u q + bt v q) % 2 := by
    intro q
    rw [bt_x, bt_tb, bt_tb]
    cases u.testBit q <;> cases v.testBit q <;> rfl
  have h0 := h 0
  have h1 := h 1
  have h2 := h 2
  have h3 := h 3
  have h4 := h 4
  rw [e, e u, e v]
  omega
theorem and_xr (a b c : Nat) : (a ^^^ b) &&& c = (a &&& c) ^^^ (b &&& c) := by
  apply Nat.eq_of_testBit_eq
  intro i
  rw [Nat.testBit_and, Nat.testBit_xor, Nat.testBit_xor, Nat.testBit_and, Nat.testBit_and]
  cases a.testBit i <;> cases b.testBit i <;> cases c.testBit i <;> rfl
theorem xr4 (a b c d : Nat) : (a ^^^ b) ^^^ (c ^^^ d) = (a ^^^ c) ^^^ (b ^^^ d) := by
  apply Nat.eq_of_testBit_eq
  intro i
  simp only [Nat.testBit_xor]
  cases a.testBit i <;> cases b.testBit i <;> cases c.testBit i <;> cases d.testBit i <;> rfl
theorem dec_x (a b : Nat) : decide ((a + b) % 2 = 1) = (decide (a % 2 = 1) ^^ decide (b % 2 = 1)) := by
  rcases Nat.mod_two_eq_zero_or_one a with h | h <;> rcases Nat.mod_two_eq_zero_or_one b with h2 | h2
  · rw [decide_eq_false (by omega), decide_eq_false (by omega), decide_eq_false (by omega)]; rfl
  · rw [decide_eq_true (by omega), decide_eq_false (by omega), decide_eq_true (by omega)]; rfl
  · rw [decide_eq_true (by omega), decide_eq_true (by omega), decide_eq_false (by omega)]; rfl
  · rw [decide_eq_false (by omega), decide_eq_true (by omega), decide_eq_true (by omega)]; rfl
theorem acB_x (a c a' c' b d : Nat) : acB (a ^^^ a') (c ^^^ c') b d = (acB a c b d ^^ acB a' c' b d) := by
  unfold acB
  rw [and_xr, and_xr, xr4, ← dec_x]
  have h := pc_xor ((a &&& d) ^^^ (c &&& b)) ((a' &&& d) ^^^ (c' &&& b))
  by_cases e : pc (((a &&& d) ^^^ (c &&& b)) ^^^ ((a' &&& d) ^^^ (c' &&& b))) % 2 = 1
  · rw [decide_eq_true e, decide_eq_true (by omega)]
  · rw [decide_eq_false e, decide_eq_false (by omega)]
theorem acB_s (a c b d : Nat) : acB a c b d = acB b d a c := by
  unfold acB
  have : (a &&& d) ^^^ (c &&& b) = (b &&& c) ^^^ (d &&& a) := by
    rw [Nat.and_comm b c, Nat.and_comm d a, Nat.xor_comm]
  rw [this]
theorem acB_0 (b d : Nat) : acB 0 0 b d = false := by
  unfold acB
  rw [Nat.zero_and, Nat.zero_and]
  rfl
theorem ac2_mul (s t v : St) : ac2 (mulN s t) v = (ac2 s v ^^ ac2 t v) := acB_x _ _ _ _ _ _
theorem ac2_s (s t : St) : ac2 s t = ac2 t s := acB_s _ _ _ _
/-- the sign's parity -/
theorem sg_par : (allB 4 fun a => allB 4 fun b => decide (sg a b % 2 = an a b % 2)) = true := by decide +kernel
theorem sgs_par (xa za xb zb k : Nat) : sgs xa za xb zb k % 2 = ac xa za xb zb k % 2 := by
  induction k with
  | zero => rfl
  | succ k ih =>
    have h := of_decide_eq_true (allB_get (allB_get sg_par (lt_4 xa za k)) (lt_4 xb zb k))
    unfold sgs ac
    omega
theorem mul_par (s t : St) : (mulN s t).1 % 2 = (s.1 + t.1 + (ac2 s t).toNat) % 2 := by
  have h := sgs_par s.2.1 s.2.2 t.2.1 t.2.2 5
  have h2 := pc_ac s.2.1 s.2.2 t.2.1 t.2.2
  have e : (mulN s t).1 = (s.1 + t.1 + sgs s.2.1 s.2.2 t.2.1 t.2.2 5) % 4 := rfl
  have e2 : (ac2 s t).toNat = ac s.2.1 s.2.2 t.2.1 t.2.2 5 % 2 := by
    unfold ac2 acB
    rw [h2]
    rcases Nat.mod_two_eq_zero_or_one (ac s.2.1 s.2.2 t.2.1 t.2.2 5) with k | k
    · rw [k]; rfl
    · rw [k]; rfl
  rw [e, e2]
  omega
/-- a symplectic pair of lists, with even phases -/
structure Sym (n : Nat) (xs zs : List PauliV) : Prop where
  xx : ∀ i j, i < n → j < n → ac2 (nat3 (xs.getD i PauliV.z)) (nat3 (xs.getD j PauliV.z)) = false
  zz : ∀ i j, i < n → j < n → ac2 (nat3 (zs.getD i PauliV.z)) (nat3 (zs.getD j PauliV.z)) = false
  zx : ∀ i j, i < n → j < n → ac2 (nat3 (zs.getD i PauliV.z)) (nat3 (xs.getD j PauliV.z)) = decide (i = j)
  ex : ∀ i, i < n → (nat3 (xs.getD i PauliV.z)).1 % 2 = 0
  ez : ∀ i, i < n → (nat3 (zs.getD i PauliV.z)).1 % 2 = 0
theorem getD_at {xs : List PauliV} {i : Nat} {x : PauliV} (h : xs[i]? = some x) : xs.getD i PauliV.z = x := by rw [List.getD_eq_getElem?_getD, h]; rfl
theorem cAt_2 (x y : PauliV) : cAt x y = ac2 (nat3 x) (nat3 y) := rfl
theorem ac2_self (s : St) : ac2 s s = false := by
  unfold ac2 acB
  have : (s.2.1 &&& s.2.2) ^^^ (s.2.2 &&& s.2.1) = 0 := by rw [Nat.and_comm s.2.2, Nat.xor_self]
  rw [this]; rfl
theorem Sym_of {n : Nat} {xs zs : List PauliV} (h : okU n (xs ++ zs) (n + n)) (hn : xs.length = n) (hm : zs.length = n) : Sym n xs zs := by
  have X : ∀ i, i < n → ∃ x, xs[i]? = some x ∧ (xs ++ zs)[i]? = some x := fun i hi => ⟨_, List.getElem?_eq_getElem (by omega), by rw [List.getElem?_append_left (by omega)]; exact List.getElem?_eq_getElem (by omega)⟩
  have Z : ∀ i, i < n → ∃ x, zs[i]? = some x ∧ (xs ++ zs)[n + i]? = some x := fun i hi => ⟨_, List.getElem?_eq_getElem (by omega), by rw [List.getElem?_append_right (by omega), hn, Nat.add_sub_cancel_left]; exact List.getElem?_eq_getElem (by omega)⟩
  have ev : ∀ (k : Nat) (x : PauliV), k < n + n → (xs ++ zs)[k]? = some x → (nat3 x).1 % 2 = 0 := by
    intro k x hk hx
    obtain ⟨h1, h2, -⟩ := h k x hk hx
    obtain ⟨_, p, a, b, -, -, -, rfl, -, -, -⟩ := pB_nat h1
    have h2' : ((p : Nat) : Int) % 2 = 0 := h2
    show p % 2 = 0
    omega
  refine ⟨fun i j hi hj => ?_, fun i j hi hj => ?_, fun i j hi hj => ?_, fun i hi => ?_, fun i hi => ?_⟩
  · obtain ⟨x, hx, hx2⟩ := X i hi
    obtain ⟨y, hy, hy2⟩ := X j hj
    rw [getD_at hx, getD_at hy]
    rcases Nat.lt_trichotomy i j with c | c | c
    · rw [ac2_s, ← cAt_2, (h j y (by omega) hy2).2.2 i x c hx2, decide_eq_false (by omega)]
    · subst c; rw [hx] at hy; cases hy; exact ac2_self _
    · rw [← cAt_2, (h i x (by omega) hx2).2.2 j y c hy2, decide_eq_false (by omega)]
  · obtain ⟨x, hx, hx2⟩ := Z i hi
    obtain ⟨y, hy, hy2⟩ := Z j hj
    rw [getD_at hx, getD_at hy]
    rcases Nat.lt_trichotomy i j with c | c | c
    · rw [ac2_s, ← cAt_2, (h (n + j) y (by omega) hy2).2.2 (n + i) x (by omega) hx2, decide_eq_false (by omega)]
    · subst c; rw [hx] at hy; cases hy; exact ac2_self _
    · rw [← cAt_2, (h (n + i) x (by omega) hx2).2.2 (n + j) y (by omega) hy2, decide_eq_false (by omega)]
  · obtain ⟨x, hx, hx2⟩ := Z i hi
    obtain ⟨y, hy, hy2⟩ := X j hj
    rw [getD_at hx, getD_at hy, ← cAt_2, (h (n + i) x (by omega) hx2).2.2 j y (by omega) hy2]
    by_cases e : i = j
    · rw [decide_eq_true e, decide_eq_true (by omega)]
    · rw [decide_eq_false e, decide_eq_false (by omega)]
  · obtain ⟨x, hx, hx2⟩ := X i hi
    rw [getD_at hx]; exact ev i x (by omega) hx2
  · obtain ⟨x, hx, hx2⟩ := Z i hi
    rw [getD_at hx]; exact ev (n + i) x (by omega) hx2
end Go.Proofs.Ytjedpeoafpljhaa.C4
namespace Go.Proofs.Ytjedpeoafpljhaa.C4
open Go.RowKit
set_option linter.unusedVariables false
set_option linter.unusedSimpArgs false
attribute [local irreducible] World.setCell

theorem lt_b0 {x z q : Nat} (h : lt x z q = 0) : x.testBit q = false ∧ z.testBit q = false := by
  have e : lt x z q = (x.testBit q).toNat + 2 * (z.testBit q).toNat := by rw [← bt_tb, ← bt_tb]; rfl
  rw [e] at h
  cases hx : x.testBit q <;> cases hz : z.testBit q <;> rw [hx, hz] at h <;> first | exact ⟨rfl, rfl⟩ | (simp at h)
theorem lt_b1 {x z q : Nat} (h : lt x z q = 1) : x.testBit q = true ∧ z.testBit q = false := by
  have e : lt x z q = (x.testBit q).toNat + 2 * (z.testBit q).toNat := by rw [← bt_tb, ← bt_tb]; rfl
  rw [e] at h
  cases hx : x.testBit q <;> cases hz : z.testBit q <;> rw [hx, hz] at h <;> first | exact ⟨rfl, rfl⟩ | (simp at h)
theorem lt_b2 {x z q : Nat} (h : lt x z q = 2) : x.testBit q = false ∧ z.testBit q = true := by
  have e : lt x z q = (x.testBit q).toNat + 2 * (z.testBit q).toNat := by rw [← bt_tb, ← bt_tb]; rfl
  rw [e] at h
  cases hx : x.testBit q <;> cases hz : z.testBit q <;> rw [hx, hz] at h <;> first | exact ⟨rfl, rfl⟩ | (simp at h)
theorem lt_b3 {x z q : Nat} (h : lt x z q = 3) : x.testBit q = true ∧ z.testBit q = true := by
  have e : lt x z q = (x.testBit q).toNat + 2 * (z.testBit q).toNat := by rw [← bt_tb, ← bt_tb]; rfl
  rw [e] at h
  cases hx : x.testBit q <;> cases hz : z.testBit q <;> rw [hx, hz] at h <;> first | exact ⟨rfl, rfl⟩ | (simp at h)
section
variable {n : Nat} {xs zs : List PauliV}
theorem dx_s {q k : Nat} {b : Bool} (h : q = k → b = false) : (decide (q < k + 1) && b) = (decide (q < k) && b) := by
  by_cases e : q = k
  · rw [h e, Bool.and_false, Bool.and_false]
  · have : decide (q < k + 1) = decide (q < k) := by
      by_cases c : q < k
      · rw [decide_eq_true c, decide_eq_true (by omega)]
      · rw [decide_eq_false c, decide_eq_false (by omega)]
    rw [this]
theorem dx_t {q k : Nat} {b : Bool} (h : q = k → b = true) : (decide (q < k + 1) && b) = ((decide (q < k) && b) ^^ decide (q = k)) := by
  by_cases e : q = k
  · rw [h e, decide_eq_true e, decide_eq_true (by omega), decide_eq_false (by omega)]; rfl
  · rw [decide_eq_false e, Bool.xor_false]
    have : decide (q < k + 1) = decide (q < k) := by
      by_cases c : q < k
      · rw [decide_eq_true c, decide_eq_true (by omega)]
      · rw [decide_eq_false c, decide_eq_false (by omega)]
    rw [this]
/-- which generators' images an image anticommutes with -/
theorem img_ac (H : Sym n xs zs) {px pz p0 k q : Nat} (hk : k ≤ n) (hq : q < n) :
    ac2 (imgS px pz xs zs p0 k) (nat3 (zs.getD q PauliV.z)) = (decide (q < k) && px.testBit q) ∧ ac2 (imgS px pz xs zs p0 k) (nat3 (xs.getD q PauliV.z)) = (decide (q < k) && pz.testBit q) := by
  induction k with
  | zero => exact ⟨acB_0 _ _, acB_0 _ _⟩
  | succ k ih =>
    obtain ⟨i1, i2⟩ := ih (by omega)
    have xz : ac2 (nat3 (xs.getD k PauliV.z)) (nat3 (zs.getD q PauliV.z)) = decide (q = k) := by rw [ac2_s]; exact H.zx q k hq (by omega)
    have zx : ac2 (nat3 (zs.getD k PauliV.z)) (nat3 (xs.getD q PauliV.z)) = decide (q = k) := by
      rw [H.zx k q (by omega) hq]
      by_cases e : k = q
      · rw [decide_eq_true e, decide_eq_true e.symm]
      · rw [decide_eq_false e, decide_eq_false (fun h => e h.symm)]
    have xx := H.xx k q (by omega) hq
    have zz := H.zz k q (by omega) hq
    rcases lt_c px pz k with hl | hl | hl | hl
    · obtain ⟨b1, b2⟩ := lt_b0 hl
      rw [imgS_0 hl, i1, i2]
      exact ⟨(dx_s (fun e => by rw [e]; exact b1)).symm, (dx_s (fun e => by rw [e]; exact b2)).symm⟩
    · obtain ⟨b1, b2⟩ := lt_b1 hl
      rw [← imgS_1 hl rfl rfl, ac2_mul, ac2_mul, i1, i2, xz, xx, Bool.xor_false]
      exact ⟨(dx_t (fun e => by rw [e]; exact b1)).symm, (dx_s (fun e => by rw [e]; exact b2)).symm⟩
    · obtain ⟨b1, b2⟩ := lt_b2 hl
      rw [← imgS_2 hl rfl rfl, ac2_mul, ac2_mul, i1, i2, zx, zz, Bool.xor_false]
      exact ⟨(dx_s (fun e => by rw [e]; exact b1)).symm, (dx_t (fun e => by rw [e]; exact b2)).symm⟩
    · obtain ⟨b1, b2⟩ := lt_b3 hl
      rw [← imgS_3 hl rfl rfl rfl]
      constructor
      · show ac2 (mulN (mulN (imgS px pz xs zs p0 k) (nat3 (xs.getD k PauliV.z))) (nat3 (zs.getD k PauliV.z))) _ = _
        rw [ac2_mul, ac2_mul, i1, xz, zz, Bool.xor_false]
        exact (dx_t (fun e => by rw [e]; exact b1)).symm
      · show ac2 (mulN (mulN (imgS px pz xs zs p0 k) (nat3 (xs.getD k PauliV.z))) (nat3 (zs.getD k PauliV.z))) _ = _
        rw [ac2_mul, ac2_mul, i2, xx, zx, Bool.xor_false]
        exact (dx_t (fun e => by rw [e]; exact b2)).symm
/-- an image of an operator without phase has an even phase -/
theorem img_par (H : Sym n xs zs) {px pz k : Nat} (hk : k ≤ n) : (imgS px pz xs zs 0 k).1 % 2 = 0 := by
  induction k with
  | zero => rfl
  | succ k ih =>
    have h0 := ih (by omega)
    have hk' : k < n := by omega
    obtain ⟨a1, a2⟩ := img_ac H (px := px) (pz := pz) (p0 := 0) (k := k) (by omega) hk'
    rw [decide_eq_false (by omega), Bool.false_and] at a1 a2
    have eX := H.ex k hk'
    have eZ := H.ez k hk'
    have xz : ac2 (nat3 (xs.getD k PauliV.z)) (nat3 (zs.getD k PauliV.z)) = true := by rw [ac2_s, H.zx k k hk' hk', decide_eq_true rfl]
    rcases lt_c px pz k with hl | hl | hl | hl
    · rw [imgS_0 hl]; exact h0
    · rw [← imgS_1 hl rfl rfl, mul_par, a2]
      show (_ + _ + 0) % 2 = 0
      omega
    · rw [← imgS_2 hl rfl rfl, mul_par, a1]
      show (_ + _ + 0) % 2 = 0
      omega
    · rw [← imgS_3 hl rfl rfl rfl]
      have h1 := mul_par (imgS px pz xs zs 0 k) (nat3 (xs.getD k PauliV.z))
      have h2 := mul_par (mulN (imgS px pz xs zs 0 k) (nat3 (xs.getD k PauliV.z))) (nat3 (zs.getD k PauliV.z))
      rw [a2] at h1
      rw [ac2_mul, a1, xz] at h2
      have h1' : (mulN (imgS px pz xs zs 0 k) (nat3 (xs.getD k PauliV.z))).1 % 2 = ((imgS px pz xs zs 0 k).1 + (nat3 (xs.getD k PauliV.z)).1 + 0) % 2 := h1
      have h2' : (mulN (mulN (imgS px pz xs zs 0 k) (nat3 (xs.getD k PauliV.z))) (nat3 (zs.getD k PauliV.z))).1 % 2 = ((mulN (imgS px pz xs zs 0 k) (nat3 (xs.getD k PauliV.z))).1 + (nat3 (zs.getD k PauliV.z)).1 + 1) % 2 := h2
      show ((mulN (mulN (imgS px pz xs zs 0 k) (nat3 (xs.getD k PauliV.z))) (nat3 (zs.getD k PauliV.z))).1 + 1) % 4 % 2 = 0
      omega
end
/-- the bits of what is found: one for each of the first j that p anticommutes with -/
def fnd (ys : List PauliV) (p : St) : Nat → Nat
  | 0 => 0
  | j + 1 => if ac2 p (nat3 (ys.getD j PauliV.z)) = true then fnd ys p j ||| 2 ^ j else fnd ys p j
theorem fnd_bit (ys : List PauliV) (p : St) (j q : Nat) : (fnd ys p j).testBit q = (decide (q < j) && ac2 p (nat3 (ys.getD q PauliV.z))) := by
  induction j with
  | zero => show (0 : Nat).testBit q = _; rw [Nat.zero_testBit, decide_eq_false (Nat.not_lt_zero q), Bool.false_and]
  | succ j ih =>
    unfold fnd
    split
    · rename_i h
      rw [Nat.testBit_or, ih, Nat.testBit_two_pow, dx_t (fun e => by rw [e]; exact h)]
      by_cases e : q = j
      · subst e; rw [decide_eq_false (Nat.lt_irrefl q), Bool.false_and]; simp
      · rw [decide_eq_false (fun h : j = q => e h.symm), decide_eq_false e]; simp
    · rename_i h
      rw [ih, dx_s (fun e => by rw [e]; simpa using h)]
theorem fnd_lt (ys : List PauliV) (p : St) (j : Nat) : fnd ys p j < 2 ^ j := by
  induction j with
  | zero => exact Nat.zero_lt_one
  | succ j ih =>
    have h2 : 2 ^ j < 2 ^ (j + 1) := Nat.pow_lt_pow_right (by decide) (Nat.lt_succ_self j)
    unfold fnd
    split
    · exact Nat.or_lt_two_pow (Nat.lt_trans ih h2) h2
    · exact Nat.lt_trans ih h2
theorem surj {N : Nat} : ∀ {f : Nat → Nat}, (∀ i, i < N → f i < N) → (∀ i j, i < N → j < N → f i = f j → i = j) → ∀ y, y < N → ∃ i, i < N ∧ f i = y := by
  induction N with
  | zero => intro f _ _ y hy; exact absurd hy (Nat.not_lt_zero y)
  | succ N ih =>
    intro f hf hi y hy
    by_cases hy2 : f N = y
    · exact ⟨N, Nat.lt_succ_self N, hy2⟩
    have hfN := hf N (Nat.lt_succ_self N)
    have hg : ∀ i, i < N → (if f i = N then f N else f i) < N := by
      intro i hin
      have h1 := hf i (by omega)
      split
      · rename_i e
        have : f N ≠ N := fun e2 => by have := hi i N (by omega) (by omega) (by rw [e, e2]); omega
        omega
      · omega
    have hgi : ∀ i j, i < N → j < N → (if f i = N then f N else f i) = (if f j = N then f N else f j) → i = j := by
      intro i j hin hjn he
      by_cases e1 : f i = N
      · by_cases e2 : f j = N
        · exact hi i j (by omega) (by omega) (by rw [e1, e2])
        · rw [if_pos e1, if_neg e2] at he
          have := hi N j (by omega) (by omega) he; omega
      · by_cases e2 : f j = N
        · rw [if_neg e1, if_pos e2] at he
          have := hi i N (by omega) (by omega) he; omega
        · rw [if_neg e1, if_neg e2] at he
          exact hi i j (by omega) (by omega) he
    by_cases hyN : y = N
    · subst hyN
      have hfl : f y < y := by omega
      obtain ⟨i, hin, he⟩ := ih hg hgi (f y) hfl
      by_cases e1 : f i = y
      · exact ⟨i, by omega, e1⟩
      · rw [if_neg e1] at he
        have := hi i y (by omega) (by omega) he; omega
    · obtain ⟨i, hin, he⟩ := ih hg hgi y (by omega)
      by_cases e1 : f i = N
      · rw [if_pos e1] at he; exact absurd he hy2
      · rw [if_neg e1] at he; exact ⟨i, by omega, he⟩
section
variable {n : Nat} {xs zs : List PauliV}
/-- an operator with the image p is the one found -/
theorem img_one (H : Sym n xs zs) {x z p0 : Nat} {p : St} (hx : x < 2 ^ n) (hz : z < 2 ^ n) (h : (imgS x z xs zs p0 n).2 = p.2) : x = fnd zs p n ∧ z = fnd xs p n := by
  have e : ∀ v, ac2 (imgS x z xs zs p0 n) v = ac2 p v := fun v => by unfold ac2; rw [h]
  have bit : ∀ (u : Nat), u < 2 ^ n → ∀ q, ¬ q < n → u.testBit q = false := fun u hu q hq => Nat.testBit_lt_two_pow (Nat.lt_of_lt_of_le hu (Nat.pow_le_pow_right (by decide) (by omega)))
  constructor
  · apply Nat.eq_of_testBit_eq
    intro q
    rw [fnd_bit]
    by_cases hq : q < n
    · have h1 := (img_ac H (px := x) (pz := z) (p0 := p0) (k := n) (Nat.le_refl n) hq).1
      rw [e, decide_eq_true hq, Bool.true_and] at h1
      rw [decide_eq_true hq, Bool.true_and, h1]
    · rw [bit x hx q hq, decide_eq_false hq, Bool.false_and]
  · apply Nat.eq_of_testBit_eq
    intro q
    rw [fnd_bit]
    by_cases hq : q < n
    · have h1 := (img_ac H (px := x) (pz := z) (p0 := p0) (k := n) (Nat.le_refl n) hq).2
      rw [e, decide_eq_true hq, Bool.true_and] at h1
      rw [decide_eq_true hq, Bool.true_and, h1]
    · rw [bit z hz q hq, decide_eq_false hq, Bool.false_and]
end
end Go.Proofs.Ytjedpeoafpljhaa.C4
namespace Go.Proofs.Ytjedpeoafpljhaa.C4
open Go.RowKit
set_option linter.unusedVariables false
set_option linter.unusedSimpArgs false
attribute [local irreducible] World.setCell

/-- the image's bits as one number -/
def imN (n : Nat) (xs zs : List PauliV) (i : Nat) : Nat := (imgS (i / 2 ^ n) (i % 2 ^ n) xs zs 0 n).2.1 * 2 ^ n + (imgS (i / 2 ^ n) (i % 2 ^ n) xs zs 0 n).2.2
theorem pairN {D a b c d : Nat} (hb : b < D) (hd : d < D) (h : a * D + b = c * D + d) : a = c ∧ b = d := by
  have hD : 0 < D := by omega
  have h1 : (a * D + b) / D = a := by rw [Nat.mul_comm, Nat.mul_add_div hD, Nat.div_eq_of_lt hb, Nat.add_zero]
  have h2 : (c * D + d) / D = c := by rw [Nat.mul_comm, Nat.mul_add_div hD, Nat.div_eq_of_lt hd, Nat.add_zero]
  have e : a = c := by rw [← h1, ← h2, h]
  subst e
  exact ⟨rfl, by omega⟩
theorem boundN {D a b : Nat} (ha : a < D) (hb : b < D) : a * D + b < D * D := by
  have h1 : (a + 1) * D ≤ D * D := Nat.mul_le_mul_right D ha
  rw [Nat.succ_mul] at h1
  omega
/-- the image of what is found is p, up to its phase -/
theorem img_found {n : Nat} {xs zs : List PauliV} (H : Sym n xs zs) (oX : okL n xs) (oZ : okL n zs) {p : St} (h1 : p.2.1 < 2 ^ n) (h2 : p.2.2 < 2 ^ n) :
    (imgS (fnd zs p n) (fnd xs p n) xs zs 0 n).2 = p.2 := by
  have hD : 0 < 2 ^ n := Nat.two_pow_pos n
  have hok : ∀ i, okS n (imgS (i / 2 ^ n) (i % 2 ^ n) xs zs 0 n) := fun i => imgS_ok oX oZ (by decide) (Nat.le_refl n)
  have hlt : ∀ i, i < 2 ^ n * 2 ^ n → imN n xs zs i < 2 ^ n * 2 ^ n := fun i _ => boundN (hok i).2.1 (hok i).2.2
  have hdiv : ∀ i, i < 2 ^ n * 2 ^ n → i / 2 ^ n < 2 ^ n := fun i hi => (Nat.div_lt_iff_lt_mul hD).2 hi
  have hinj : ∀ i j, i < 2 ^ n * 2 ^ n → j < 2 ^ n * 2 ^ n → imN n xs zs i = imN n xs zs j → i = j := by
    intro i j hi hj he
    obtain ⟨e1, e2⟩ := pairN (hok i).2.2 (hok j).2.2 he
    have e3 : (imgS (i / 2 ^ n) (i % 2 ^ n) xs zs 0 n).2 = (imgS (j / 2 ^ n) (j % 2 ^ n) xs zs 0 n).2 := Prod.ext e1 e2
    obtain ⟨a1, a2⟩ := img_one H (hdiv i hi) (Nat.mod_lt i hD) e3
    obtain ⟨b1, b2⟩ := img_one H (hdiv j hj) (Nat.mod_lt j hD) (rfl : (imgS (j / 2 ^ n) (j % 2 ^ n) xs zs 0 n).2 = _)
    have c1 : i / 2 ^ n = j / 2 ^ n := a1.trans b1.symm
    have c2 : i % 2 ^ n = j % 2 ^ n := a2.trans b2.symm
    rw [← Nat.div_add_mod i (2 ^ n), ← Nat.div_add_mod j (2 ^ n), c1, c2]
  obtain ⟨i, hi, he⟩ := surj hlt hinj (p.2.1 * 2 ^ n + p.2.2) (boundN h1 h2)
  obtain ⟨e1, e2⟩ := pairN (hok i).2.2 h2 he
  have e3 : (imgS (i / 2 ^ n) (i % 2 ^ n) xs zs 0 n).2 = p.2 := Prod.ext e1 e2
  obtain ⟨a1, a2⟩ := img_one H (hdiv i hi) (Nat.mod_lt i hD) e3
  have g1 := a1.symm
  have g2 := a2.symm
  rw [g1, g2]
  exact e3
/-- the operator with the image p: as the program makes it -/
def preV (n : Nat) (xs zs : List PauliV) (p : St) : PauliV := pv (imgS (fnd zs p n) (fnd xs p n) xs zs 0 n).1 (fnd zs p n) (fnd xs p n)
theorem even4 {y : Nat} (h : y < 4) (h2 : y % 2 = 0) : (0 + 4 - y) % 4 = y := by omega
end Go.Proofs.Ytjedpeoafpljhaa.C4
