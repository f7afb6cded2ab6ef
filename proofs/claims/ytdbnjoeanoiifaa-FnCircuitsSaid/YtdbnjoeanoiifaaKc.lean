/- What Concat, Inverse and MapQubits answer, in one contract each. -/
import Derived.Test.YtdbnjoeanoiifaaPfK
import Derived.Test.YtdbnjoeanoiifaaKs
namespace Go.Proofs.Ytdbnjoeanoiifaa
open Go.RowKit
set_option linter.unusedVariables false
set_option linter.unusedSimpArgs false
attribute [local irreducible] World.setCell

/-- a circuit and a bool are the answer -/
def RdC (q : Int) (L : List GateV) (t : Bool) (w : World) (ee : Ending) (w' : World) : Prop := ∃ (B : Option Addr) (cq : Nat), ee = .returned (.tuple #[circuitV q B L.length cq, .bool t]) ∧ Rd gateE w' B L ∧ Below w.heap.size w w'
theorem RdC.bad {w w' : World} {ee : Ending} (h : ee = .returned (.tuple #[circuitV 0 none 0 0, .bool false]) ∧ Below w.heap.size w w') : RdC 0 [] false w ee w' := ⟨none, 0, h.1, Rd.nil _ _, h.2⟩
theorem RdC.okr {q : Int} {L : List GateV} {w w' : World} {ee : Ending} (h : OkR q L w ee w') : RdC q L true w ee w' := by
  obtain ⟨B, cq, h1, ⟨h2, _⟩, h3⟩ := h
  exact ⟨B, cq, h1, h2, h3⟩
theorem RdC.okc {q : Int} {L : List GateV} {w w' : World} {ee : Ending} (h : OkC q L w ee w') : RdC q L true w ee w' := by
  obtain ⟨B, cq, h1, h2, h3⟩ := h
  exact ⟨B, cq, h1, h2.rd, h3⟩
/-- two circuits may be put one behind the other -/
def catB (a b : Int) (n m : Nat) (xs ys : List GateV) : Bool := okC a n xs && (okC b m ys && decide (a = b))
theorem iCat {a0 b0 : Int} {Ag Ah : Option Addr} {n1 c1 m1 d1 : Nat} {xs ys : List GateV} {w : World} (hA : Rd gateE w Ag xs) (hPA : Pl Ag n1 c1) (hB : Rd gateE w Ah ys) (hPB : Pl Ah m1 d1) (hn : xs.length = n1) (hm : ys.length = m1) (h9 : n1 ≤ 9) (h8 : m1 ≤ 9) {t : Bool} {q : Int} {L : List GateV} (ht : catB a0 b0 n1 m1 xs ys = t) (hq : q = if t then a0 else 0) (hL : L = if t then xs ++ ys else []) :
    Calls Try.prog 17 #[circuitV a0 Ag n1 c1, circuitV b0 Ah m1 d1] w fun ee w' => RdC q L t w ee w' := by
  have hmn : n1 ≤ maxLen := by unfold maxLen; omega
  have hmm : m1 ≤ maxLen := by unfold maxLen; omega
  subst hq hL ht
  unfold catB
  cases ho : okC a0 n1 xs
  · exact (iConcat_a hA hPA hB hPB hn hm hmn hmm ho).mono fun _ _ h => RdC.bad h
  cases hp : okC b0 m1 ys
  · exact (iConcat_b hA hPA hB hPB hn hm hmn hmm ho hp).mono fun _ _ h => RdC.bad h
  by_cases hq : a0 = b0
  · rw [decide_eq_true hq]
    exact (iConcat_t hA hPA hB hPB hn hm hmn hmm ho hp hq (by omega)).mono fun _ _ h => RdC.okc h
  · rw [decide_eq_false hq]
    exact (iConcat_q hA hPA hB hPB hn hm hmn hmm ho hp hq).mono fun _ _ h => RdC.bad h
theorem sCat {a0 b0 : Int} {Ag Ah : Option Addr} {n1 c1 m1 d1 : Nat} {xs ys : List GateV} {w : World} (hA : Rd gateE w Ag xs) (hPA : Pl Ag n1 c1) (hB : Rd gateE w Ah ys) (hPB : Pl Ah m1 d1) (hn : xs.length = n1) (hm : ys.length = m1) (h9 : n1 ≤ 9) (h8 : m1 ≤ 9) {t : Bool} {q : Int} {L : List GateV} (ht : catB a0 b0 n1 m1 xs ys = t) (hq : q = if t then a0 else 0) (hL : L = if t then xs ++ ys else []) :
    Calls Try.prog 18 #[circuitV a0 Ag n1 c1, circuitV b0 Ah m1 d1] w fun ee w' => RdC q L t w ee w' := by
  have hmn : n1 ≤ maxLen := by unfold maxLen; omega
  have hmm : m1 ≤ maxLen := by unfold maxLen; omega
  subst hq hL ht
  unfold catB
  cases ho : okC a0 n1 xs
  · exact (sConcat_a hA hPA hB hPB hn hm hmn hmm ho).mono fun _ _ h => RdC.bad h
  cases hp : okC b0 m1 ys
  · exact (sConcat_b hA hPA hB hPB hn hm hmn hmm ho hp).mono fun _ _ h => RdC.bad h
  by_cases hq : a0 = b0
  · rw [decide_eq_true hq]
    exact (sConcat_t hA hPA hB hPB hn hm hmn hmm ho hp hq (by omega)).mono fun _ _ h => RdC.okr h
  · rw [decide_eq_false hq]
    exact (sConcat_q hA hPA hB hPB hn hm hmn hmm ho hp hq).mono fun _ _ h => RdC.bad h
/-- a circuit has an inverse within the bounds -/
def invB (a : Int) (n : Nat) (xs : List GateV) : Bool := okC a n xs && decide ((invL xs).length ≤ 400)
theorem iInv {a0 : Int} {A1 : Option Addr} {n1 c1 : Nat} {xs : List GateV} {w : World} (hA : Rd gateE w A1 xs) (hn : xs.length = n1) (h9 : n1 ≤ 59) {t : Bool} {q : Int} {L : List GateV} (ht : invB a0 n1 xs = t) (hq : q = if t then a0 else 0) (hL : L = if t then invL xs else []) :
    Calls Try.prog 22 #[circuitV a0 A1 n1 c1] w fun ee w' => RdC q L t w ee w' := by
  have hmn : n1 ≤ maxLen := by unfold maxLen; omega
  subst hq hL ht
  unfold invB
  cases ho : okC a0 n1 xs
  · exact (iInverse_f hA hn hmn ho).mono fun _ _ h => RdC.bad h
  by_cases hq : (invL xs).length ≤ 400
  · rw [decide_eq_true hq]
    exact (iInverse_t hA hn hmn ho (by omega) hq).mono fun _ _ h => RdC.okc h
  · rw [decide_eq_false hq]
    exact (iInverse_o hA hn hmn ho (by omega) (by omega)).mono fun _ _ h => RdC.bad h
/-- a circuit may be put on other qubits -/
def mapB (a n : Int) (n1 : Nat) (xs : List GateV) (ts : List Int) : Bool := okC a n1 xs && (decide (∀ x ∈ ts, inB x 0 (n - 1) = true) && decide ts.Nodup)
theorem iMapA {a0 n : Int} {Ag : Option Addr} {h n1 c1 m d1 : Nat} {xs : List GateV} {ts : List Int} {w : World} (hA : Rd gateE w Ag xs) (hPA : Pl Ag n1 c1) (hB : Rd intE w (some ⟨h, 0, none⟩) ts) (hn : xs.length = n1) (hm : ts.length = m) (hPB : Pl (some ⟨h, 0, none⟩) m d1) (h9 : n1 ≤ 8) (h8 : (m : Int) = a0) (hn1 : 1 ≤ n) (hn5 : n ≤ 5) (ha : a0 ≤ 5) {t : Bool} {q : Int} {L : List GateV} (ht : mapB a0 n n1 xs ts = t) (hq : q = if t then n else 0) (hL : L = if t then xs.map (mapG ts) else []) :
    Calls Try.prog 26 #[circuitV a0 Ag n1 c1, .slice (some ⟨h, 0, none⟩) m d1, .int .i64 n] w fun ee w' => RdC q L t w ee w' := by
  have hmn : n1 ≤ maxLen := by unfold maxLen; omega
  have hmm : m ≤ 1048576 := by omega
  have hi : inB n 1 5 = true := inB_iff.2 ⟨hn1, hn5⟩
  subst hq hL ht
  unfold mapB
  cases ho : okC a0 n1 xs
  · exact (iMap_v hA hPA hB hn hm hmn hmm ho).mono fun _ _ h => RdC.bad h
  by_cases hx : ∀ x ∈ ts, inB x 0 (n - 1) = true
  · rw [decide_eq_true hx]
    by_cases hy : ts.Nodup
    · rw [decide_eq_true hy]
      exact (iMap_t hA hPA hB hn hm hmn hmm hPB.2 ho hi h8 ⟨hx, hy⟩).mono fun _ _ h => RdC.okc h
    · rw [decide_eq_false hy]
      exact (iMap_d hA hPA hB hn hm hmn hmm hPB.2 ho hi h8 (fun h => hy h.2)).mono fun _ _ h => RdC.bad h
  · rw [decide_eq_false hx]
    exact (iMap_d hA hPA hB hn hm hmn hmm hPB.2 ho hi h8 (fun h => hx h.1)).mono fun _ _ h => RdC.bad h
theorem sMapA {a0 n : Int} {Ag : Option Addr} {h n1 c1 m d1 : Nat} {xs : List GateV} {ts : List Int} {w : World} (hA : Rd gateE w Ag xs) (hPA : Pl Ag n1 c1) (hB : Rd intE w (some ⟨h, 0, none⟩) ts) (hn : xs.length = n1) (hm : ts.length = m) (hPB : Pl (some ⟨h, 0, none⟩) m d1) (h9 : n1 ≤ 8) (h8 : (m : Int) = a0) (hn1 : 1 ≤ n) (hn5 : n ≤ 5) (ha : a0 ≤ 5) {t : Bool} {q : Int} {L : List GateV} (ht : mapB a0 n n1 xs ts = t) (hq : q = if t then n else 0) (hL : L = if t then xs.map (mapG ts) else []) :
    Calls Try.prog 27 #[circuitV a0 Ag n1 c1, .slice (some ⟨h, 0, none⟩) m d1, .int .i64 n] w fun ee w' => RdC q L t w ee w' := by
  have hmn : n1 ≤ maxLen := by unfold maxLen; omega
  have hmm : m ≤ 1048576 := by omega
  have hi : inB n 1 5 = true := inB_iff.2 ⟨hn1, hn5⟩
  subst hq hL ht
  unfold mapB
  cases ho : okC a0 n1 xs
  · exact (sMap_v hA hPA hB hn hm hmn hmm ho).mono fun _ _ h => RdC.bad h
  by_cases hx : ∀ x ∈ ts, inB x 0 (n - 1) = true
  · rw [decide_eq_true hx]
    by_cases hy : ts.Nodup
    · rw [decide_eq_true hy]
      exact (sMap_t hA hPA hB hn hm hmn hmm hPB.2 ho hi h8 hx hy).mono fun _ _ h => RdC.okr h
    · rw [decide_eq_false hy]
      exact (sMap_d hA hPA hB hn hm hmn hmm hPB.2 ho hi h8 hx hy).mono fun _ _ h => RdC.bad h
  · rw [decide_eq_false hx]
    exact (sMap_a hA hPA hB hn hm hmn hmm ho hi h8 hx).mono fun _ _ h => RdC.bad h
/-- lengths of what comes out -/
theorem cat_len {xs ys : List GateV} {n m : Nat} (hn : xs.length = n) (hm : ys.length = m) (h9 : n ≤ 9) (h8 : m ≤ 9) (t : Bool) : (if t then xs ++ ys else []).length ≤ 18 := by
  cases t
  · exact Nat.zero_le _
  · rw [if_pos rfl, List.length_append]; omega
theorem map_len {xs : List GateV} {n : Nat} (hn : xs.length = n) (h9 : n ≤ 8) (f : GateV → GateV) (t : Bool) : (if t then xs.map f else []).length ≤ 8 := by
  cases t
  · exact Nat.zero_le _
  · rw [if_pos rfl, List.length_map]; omega
theorem inv_len {a : Int} {n : Nat} {xs : List GateV} (h : invB a n xs = true) : okC a n xs = true ∧ (invL xs).length ≤ 400 := by
  unfold invB at h
  rw [Bool.and_eq_true] at h
  exact ⟨h.1, of_decide_eq_true h.2⟩
theorem cat_true {a b : Int} {n m : Nat} {xs ys : List GateV} (h : catB a b n m xs ys = true) : okC a n xs = true ∧ okC b m ys = true ∧ a = b := by
  unfold catB at h
  rw [Bool.and_eq_true, Bool.and_eq_true] at h
  exact ⟨h.1, h.2.1, of_decide_eq_true h.2.2⟩
end Go.Proofs.Ytdbnjoeanoiifaa
