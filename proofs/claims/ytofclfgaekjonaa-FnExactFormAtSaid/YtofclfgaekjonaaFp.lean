/- FormAt: plain facts. -/
import Derived.Test.YtofclfgaekjonaaCf
import Derived.Laws.BytesArg
namespace Go.Proofs.Ytofclfgaekjonaa
open Go.RowKit RM
set_option linter.unusedVariables false
set_option linter.unusedSimpArgs false
attribute [local irreducible] World.setCell

/-- the letter that a number's last bit stands for -/
def hsN (q : Nat) : Int := if q % 2 = 0 then 72 else 83
def thN (q : Nat) : Int := if q = 0 then 84 else if q = 1 then 72 else 83
/-- the last t letters -/
def sfx : Nat → Nat → List Int
  | 0, _ => []
  | t + 1, q => hsN (q / 2 ^ t) :: sfx t q
def faL : Nat → Nat → List Int
  | 0, _ => []
  | n + 1, q => thN (q / 2 ^ n) :: sfx n q
theorem sfx_len (t q : Nat) : (sfx t q).length = t := by
  induction t with
  | zero => rfl
  | succ t ih => simp [sfx, ih]
theorem faL_len (n q : Nat) : (faL n q).length = n := by
  cases n with
  | zero => rfl
  | succ n => simp [faL, sfx_len]
theorem son_cons (x : Int) (l : List Int) : strOfNums (x :: l) = strOfNums [x] ++ strOfNums l := by
  unfold strOfNums
  apply ByteArray.ext
  simp
theorem hsN_0 {q : Nat} (h : q % 2 = 0) : hsN q = 72 := by unfold hsN; rw [if_pos h]
theorem hsN_1 {q : Nat} (h : q % 2 = 1) : hsN q = 83 := by unfold hsN; rw [if_neg (by omega)]
theorem div_s (q t : Nat) : q / 2 ^ (t + 1) = q / 2 ^ t / 2 := by rw [Nat.pow_succ, Nat.div_div_eq_div_mul]
theorem cnt_q : ∀ n : Nat, n < 20 → cntI (n + 1) = 72 * 2 ^ n := by decide +kernel
theorem top_q {n k : Nat} (hn : n < 20) (hk : (k : Int) < cntI (n + 1)) : k / 24 / 2 ^ n ≤ 2 := by
  rw [cnt_q n hn] at hk
  have h1 : k < 72 * 2 ^ n := by
    have : ((72 * 2 ^ n : Nat) : Int) = 72 * 2 ^ n := by simp
    omega
  rw [Nat.div_div_eq_div_mul]
  have h2 : k / (24 * 2 ^ n) < 3 := by
    rw [Nat.div_lt_iff_lt_mul (by have := Nat.two_pow_pos n; omega)]
    omega
  omega

end Go.Proofs.Ytofclfgaekjonaa
