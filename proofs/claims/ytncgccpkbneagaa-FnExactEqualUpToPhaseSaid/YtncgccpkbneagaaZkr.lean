/- KrD, KrI -/
import Derived.Test.YtncgccpkbneagaaSRow
import Derived.Test.YtncgccpkbneagaaZar
namespace Go.Proofs.Ytncgccpkbneagaa
open Go.RowKit RM
set_option linter.unusedVariables false
set_option linter.unusedSimpArgs false
attribute [local irreducible] World.setCell

/-- the array as far as it is written -/
def kP (F : Nat → D5) (p q : Nat) : D5 := if q < p then F q else z5
theorem kP_0 (F : Nat → D5) (N : Nat) : tab N (kP F 0) = List.replicate N z5 := by
  rw [tab_repl]; exact tab_congr (fun q _ => by unfold kP; rw [if_neg (by omega)])
theorem kP_all {F : Nat → D5} {N p : Nat} (h : N ≤ p) : tab N (kP F p) = tab N F := tab_congr (fun q hq => by unfold kP; rw [if_pos (by omega)])
theorem tab_copy {N k m : Nat} {f : Nat → D5} {ys : List D5} (h : k + m ≤ N) (hl : ys.length = m) : (tab N f).take k ++ (ys ++ (tab N f).drop (k + m)) = tab N (fun q => if k ≤ q ∧ q < k + m then ys.getD (q - k) z5 else f q) := by
  apply List.ext_getElem?
  intro q
  by_cases hq : q < N
  · rw [tab_get hq]
    by_cases h1 : q < k
    · rw [List.getElem?_append_left (by rw [List.length_take, tab_len]; omega), List.getElem?_take_of_lt h1, tab_get hq, if_neg (by omega)]
    · rw [List.getElem?_append_right (by rw [List.length_take, tab_len]; omega), List.length_take, tab_len, Nat.min_eq_left (by omega)]
      by_cases h2 : q < k + m
      · rw [List.getElem?_append_left (by omega), if_pos (by omega)]
        exact get_of (by omega)
      · rw [List.getElem?_append_right (by omega), List.getElem?_drop, if_neg (by omega), hl, show k + m + (q - k - m) = q from by omega, tab_get hq]
  · rw [List.getElem?_eq_none (by simp [tab_len, hl]; omega), List.getElem?_eq_none (by rw [tab_len]; omega)]
theorem row_getD {ys : List D5} {s c r : Nat} (hr : r < c) : ((ys.drop s).take c).getD r z5 = ys.getD (s + r) z5 := by
  rw [List.getD_eq_getElem?_getD, List.getD_eq_getElem?_getD, List.getElem?_take_of_lt hr, List.getElem?_drop]
/-- Kron's numbers -/
def krX (Q rb cb ca : Nat) (xs : List D5) (q : Nat) : D5 := xs.getD (q / Q / rb * ca + q % Q / cb) z5
def krY (Q rb cb : Nat) (ys : List D5) (q : Nat) : D5 := ys.getD (q / Q % rb * cb + q % Q % cb) z5
def krF (Q rb cb ca : Nat) (xs ys : List D5) (q : Nat) : D5 := (mulS false (krX Q rb cb ca xs q) (krY Q rb cb ys q)).1
def krG (Q rb cb ca : Nat) (xs ys : List D5) (q : Nat) : Bool := (mulS false (krX Q rb cb ca xs q) (krY Q rb cb ys q)).2
theorem divQ {Q i r : Nat} (h : r < Q) : (i * Q + r) / Q = i ∧ (i * Q + r) % Q = r := by
  have hQ : 0 < Q := by omega
  rw [Nat.add_comm, Nat.mul_comm]
  exact ⟨by rw [Nat.add_mul_div_left _ _ hQ, Nat.div_eq_of_lt h, Nat.zero_add], by rw [Nat.add_mul_mod_self_left, Nat.mod_eq_of_lt h]⟩
theorem kr_at {Q rb cb ca i j r : Nat} {xs ys : List D5} (hQ : Q = ca * cb) (hj : j < ca) (hr : r < cb) : krX Q rb cb ca xs (i * Q + j * cb + r) = xs.getD (i / rb * ca + j) z5 ∧ krY Q rb cb ys (i * Q + j * cb + r) = ys.getD (i % rb * cb + r) z5 := by
  have h1 : j * cb + r < Q := by
    have : (j + 1) * cb ≤ ca * cb := Nat.mul_le_mul_right cb hj
    rw [Nat.add_mul, ← hQ] at this; omega
  unfold krX krY
  rw [Nat.add_assoc, (divQ h1).1, (divQ h1).2, (divQ hr).1, (divQ hr).2]
  exact ⟨rfl, rfl⟩
/-- one block of Kron: copied, scaled -/
theorem kr_block {Q rb cb ca N i j k s' : Nat} {xs ys row : List D5} {x : D5} (hQ : Q = ca * cb) (hj : j < ca) (hk : k = i * Q + j * cb) (hkN : k + cb ≤ N) (hx : xs.getD (i / rb * ca + j) z5 = x) (hs : s' = i % rb * cb) (hrow : ∀ r, r < cb → row.getD r z5 = ys.getD (s' + r) z5) :
    tab N (mulP (fun q => if k ≤ q ∧ q < k + cb then row.getD (q - k) z5 else kP (krF Q rb cb ca xs ys) k q) x k cb) = tab N (kP (krF Q rb cb ca xs ys) (k + cb)) ∧
    (∀ r, r < cb → mulH (fun q => if k ≤ q ∧ q < k + cb then row.getD (q - k) z5 else kP (krF Q rb cb ca xs ys) k q) x k r = krG Q rb cb ca xs ys (k + r)) := by
  have key : ∀ r, r < cb → krX Q rb cb ca xs (k + r) = x ∧ krY Q rb cb ys (k + r) = row.getD r z5 := fun r hr => by
    have := kr_at (rb := rb) (xs := xs) (ys := ys) (i := i) hQ hj hr
    rw [← hk] at this
    exact ⟨this.1.trans hx, this.2.trans (by rw [hrow r hr, hs])⟩
  constructor
  · refine tab_congr (fun q hq => ?_)
    unfold mulP
    dsimp only
    by_cases h : k ≤ q ∧ q < k + cb
    · rw [if_pos h, if_pos h]
      obtain ⟨r, rfl⟩ := Nat.exists_eq_add_of_le h.1
      have := key r (by omega)
      unfold kP krF
      rw [if_pos h.2, this.1, this.2, Nat.add_sub_cancel_left]
    · rw [if_neg h, if_neg h]
      unfold kP
      by_cases h2 : q < k
      · rw [if_pos h2, if_pos (by omega)]
      · rw [if_neg h2, if_neg (by omega)]
  · intro r hr
    unfold mulH krG
    rw [(key r hr).1, (key r hr).2]
    show (mulS false x (if k ≤ k + r ∧ k + r < k + cb then row.getD (k + r - k) z5 else _)).2 = _
    rw [if_pos (by omega), Nat.add_sub_cancel_left]
theorem dim_mul {a b : Nat} (ha : dimB (a : Int) = true) (hb : dimB (b : Int) = true) (h : a * b ≤ 32) : dimB ((a * b : Nat) : Int) = true := by
  have h1 := dimB_cases ha
  have h2 := dimB_cases hb
  have e1 : a = 1 ∨ a = 2 ∨ a = 4 ∨ a = 8 ∨ a = 16 ∨ a = 32 := by omega
  have e2 : b = 1 ∨ b = 2 ∨ b = 4 ∨ b = 8 ∨ b = 16 ∨ b = 32 := by omega
  rcases e1 with rfl | rfl | rfl | rfl | rfl | rfl <;> rcases e2 with rfl | rfl | rfl | rfl | rfl | rfl <;> first | decide | omega
theorem dim_big {p : Nat} (h : 32 < p) : dimB (p : Int) = false := by
  cases hd : dimB (p : Int)
  · rfl
  · have := dimB_cases hd; omega
section
variable {P : Program} {ops : Array Oper} {o : Oper} {a : Act} {w : World} {K : Act → World → Prop} {Q : Exit → Act → World → Prop} {E : Prop}
theorem step_copy5 (hgd : o.guard = none) (d s : Operand) (dT sT : TypeId)
    (ho : o.op = .call { callee := .builtin .copy, args := #[d, s], argTypes := #[dT, sT] }) (elem : TypeId) (hu : P.underlying dT = some (.slice elem)) (hsz : (P.info? elem).map (·.size) = some 5)
    (g k off m dCap : Nat) (sg so sCap : Nat) (hd : a.eval d = .slice (some ⟨g, off, none⟩) m dCap) (hs : a.eval s = .slice (some ⟨sg, so, none⟩) m sCap) (hoff : off = k * 5)
    (cur ys : List D5) (t : TypeId) (hg : Bk w g t cur) (hr : Rd w (some ⟨sg, so, none⟩) ys) (hl : ys.length = m) (hfit : k + m ≤ cur.length) (B : Nat) (w0 : World) (hb : Below B w0 w) (hBg : B ≤ g)
    (h : ∀ w', Bk w' g t (cur.take k ++ (ys ++ cur.drop (k + m))) → Below B w0 w' → (∀ j, j ≠ g → w'.heap[j]? = w.heap[j]?) → w'.heap.size = w.heap.size → K (a.put o.dst (goInt m)) w') :
    if Region.wanted o (yielded ops a.tmps) = true then Oper.wp P o a w K Q else E := by
  have hw : Region.wanted o (yielded ops a.tmps) = true := by simp [Region.wanted, hgd]
  rw [if_pos hw]
  subst hoff
  have hrun := run_copy5 (P := P) w dT sT o.type elem g (k * 5) m dCap ⟨sg, so, none⟩ m sCap m _ t (csL ys) hu hsz hg (Nat.min_self m).symm (by rw [csL_len, hl]) (csL_at hr) (by rw [csL_len, List.size_toArray, csL_len]; omega) (csL_one ys)
  have hbk : Bk (w.setRow g (((csL cur).toArray.toList.take (k * 5) ++ csL ys ++ (csL cur).toArray.toList.drop (k * 5 + (csL ys).length)).toArray)) g t (cur.take k ++ (ys ++ cur.drop (k + m))) := by
    unfold Bk
    rw [setRow_heap w g _ _ t _ hg, csL_app, csL_app, csL_take, csL_drop, csL_len, hl, ← Nat.add_mul, List.append_assoc]
  have hK' := h _ hbk (below_setRow hb hBg _) (fun j hj => setRow_other w g j _ hj) (by simp [World.setRow])
  unfold Oper.wp
  simp only [execOp, ho, resolve, invoke, builtin, hd, hs, List.map_toArray, List.map_cons, List.map_nil, Sem.run_bind, Sem.run_pure, Result.andThen_ok, hrun]
  exact hK'
end

end Go.Proofs.Ytncgccpkbneagaa
namespace Go.Proofs.Ytncgccpkbneagaa
open Go.RowKit RM
set_option linter.unusedVariables false
set_option linter.unusedSimpArgs false
attribute [local irreducible] World.setCell

set_option maxRecDepth 100000 in
set_option maxHeartbeats 4000000 in
theorem kr_i_p {ra ca rb cb P Q : Nat} {g0 h0 n m cp cp' : Nat} {xs ys : List D5} {w : World} (hA : Rd w (some ⟨g0, 0, none⟩) xs) (hB : Rd w (some ⟨h0, 0, none⟩) ys) (hn : xs.length = n) (hm : ys.length = m) (hok : okM (ra : Int) (ca : Int) n xs = true) (hok2 : okM (rb : Int) (cb : Int) m ys = true) (hP : P = ra * rb) (hd : dimB (P : Int) = false) :
    Calls Try.prog 27 #[mv (ra : Int) (ca : Int) (some ⟨g0, 0, none⟩) n cp, mv (rb : Int) (cb : Int) (some ⟨h0, 0, none⟩) m cp'] w fun ee w' => ee = .returned (mt 0 0 none 0 0 false) ∧ Below w.heap.size w w' := by
  obtain ⟨hnn, a1, a2, a3, a4, a5⟩ := okM_nat2 hok
  obtain ⟨hmm, b1, b2, b3, b4, b5⟩ := okM_nat2 hok2
  have pe : (ra : Int) * (rb : Int) = (P : Int) := by rw [hP]; simp
  have pb : P ≤ 32 * 32 := by rw [hP]; exact Nat.mul_le_mul a2 b2
  have pw : IntKind.i64.wrap (P : Int) = (P : Int) := IntWalk.i64_in _ (by omega)
  have HD := hid hd
  clear hd
  have HA := hid hA
  have HB := hid hB
  have HN := hid hn
  have HM := hid hm
  have HO := hid hok
  have HP := hid hok2
  have HNN := hid hnn
  have HMM := hid hmm
  have EP := hid hP
  clear hA hB hn hm hok hok2 hnn hmm hP
  go_enter Try.func27, Try.ntmps27
  go_wp2_with (fail)
  refine (vm_i_t (xs := xs) HO.out ?_ HN.out).mono ?_
  · exact HA.out.mono (by (repeat' (first | (with_reducible exact Below.refl _ _) | (with_reducible assumption) | (with_reducible refine Below.alloc ?_ ?_ _) | (with_reducible refine Below.drew ?_) | (with_reducible refine below_drewN ?_ _) | (with_reducible refine Below.setCell ?_ ?_ _) | (with_reducible refine chain ?_ (by assumption) ?_) | omega | (simp; done) | (simp; omega))))
  rintro ee w1 ⟨rfl, hb1⟩
  obtain ⟨hc1, hf1, _⟩ := bcell hb1; have hz1 := hb1.size; (try simp at hz1); (try have hx10 : w.heap.size < w1.heap.size := (by omega)); (try have hx11 : w.heap.size + 1 < w1.heap.size := (by omega)); (try have hx12 : w.heap.size + 1 + 1 < w1.heap.size := (by omega)); (try have hx13 : w.heap.size + 1 + 1 + 1 < w1.heap.size := (by omega))
  have Xa1 : Hid (Bx w1 (w.heap.size) 26 #[.int .i64 (ra : Int), .int .i64 (ca : Int), .slice (some ⟨g0, 0, none⟩) n cp]) := by show Bx _ _ _ _; (repeat' (first | (with_reducible assumption) | (refine Bx.new (by first | (with_reducible rfl) | (simp; done))) | (with_reducible refine Bx.alloc ?_ _) | (with_reducible refine Bx.drew ?_) | (with_reducible refine Bx.drewN ?_ _) | (with_reducible refine Bx.mono ?_ (by assumption)) | (with_reducible refine Bx.badly ?_ (by assumption) (by omega)) | (with_reducible refine Bx.far ?_ (by (try simp only [World.size_alloc, World.size_drew]); omega)) | (with_reducible refine Bx.set ?_ rfl) | (with_reducible refine Bx.grown ?_ (by assumption) (by assumption))))
  have Xb1 : Hid (Bx w1 (w.heap.size + 1) 26 #[.int .i64 (rb : Int), .int .i64 (cb : Int), .slice (some ⟨h0, 0, none⟩) m cp']) := by show Bx _ _ _ _; (repeat' (first | (with_reducible assumption) | (refine Bx.new (by first | (with_reducible rfl) | (simp; done))) | (with_reducible refine Bx.alloc ?_ _) | (with_reducible refine Bx.drew ?_) | (with_reducible refine Bx.drewN ?_ _) | (with_reducible refine Bx.mono ?_ (by assumption)) | (with_reducible refine Bx.badly ?_ (by assumption) (by omega)) | (with_reducible refine Bx.far ?_ (by (try simp only [World.size_alloc, World.size_drew]); omega)) | (with_reducible refine Bx.set ?_ rfl) | (with_reducible refine Bx.grown ?_ (by assumption) (by assumption))))
  have Xz1 : Hid (Bx w1 (w.heap.size + 1 + 1) 26 #[.int .i64 0, .int .i64 0, .slice none 0 0]) := by show Bx _ _ _ _; (repeat' (first | (with_reducible assumption) | (refine Bx.new (by first | (with_reducible rfl) | (simp; done))) | (with_reducible refine Bx.alloc ?_ _) | (with_reducible refine Bx.drew ?_) | (with_reducible refine Bx.drewN ?_ _) | (with_reducible refine Bx.mono ?_ (by assumption)) | (with_reducible refine Bx.badly ?_ (by assumption) (by omega)) | (with_reducible refine Bx.far ?_ (by (try simp only [World.size_alloc, World.size_drew]); omega)) | (with_reducible refine Bx.set ?_ rfl) | (with_reducible refine Bx.grown ?_ (by assumption) (by assumption))))
  have hw1 : Below w.heap.size w w1 := by (repeat' (first | (with_reducible exact Below.refl _ _) | (with_reducible assumption) | (with_reducible refine Below.alloc ?_ ?_ _) | (with_reducible refine Below.drew ?_) | (with_reducible refine below_drewN ?_ _) | (with_reducible refine Below.setCell ?_ ?_ _) | (with_reducible refine chain ?_ (by assumption) ?_) | omega | (simp; done) | (simp; omega)))
  go_wp2_with (fail)
  refine (vm_i_t (xs := ys) HP.out ?_ HM.out).mono ?_
  · exact HB.out.mono (by (repeat' (first | (with_reducible exact Below.refl _ _) | (with_reducible assumption) | (with_reducible refine Below.alloc ?_ ?_ _) | (with_reducible refine Below.drew ?_) | (with_reducible refine below_drewN ?_ _) | (with_reducible refine Below.setCell ?_ ?_ _) | (with_reducible refine chain ?_ (by assumption) ?_) | omega | (simp; done) | (simp; omega))))
  rintro ee w2 ⟨rfl, hb2⟩
  have hz2 := hb2.size
  have hw2 : Below w.heap.size w w2 := chain hw1 hb2 hw1.size
  have Ya2 := hid (Xa1.out.mono hb2)
  have ca0 := Ya2.out.c 0 rfl
  have ca1 := Ya2.out.c 1 rfl
  have ca2 := Ya2.out.c 2 rfl
  have fa := Ya2.out.f
  have la := Ya2.out.lt
  have Yb2 := hid (Xb1.out.mono hb2)
  have cb0 := Yb2.out.c 0 rfl
  have cb1 := Yb2.out.c 1 rfl
  have cb2 := Yb2.out.c 2 rfl
  have fb := Yb2.out.f
  have lb := Yb2.out.lt
  have Yz2 := hid (Xz1.out.mono hb2)
  have cz0 := Yz2.out.c 0 rfl
  have cz1 := Yz2.out.c 1 rfl
  have cz2 := Yz2.out.c 2 rfl
  have fz := Yz2.out.f
  have lz := Yz2.out.lt
  clear Xa1 Xb1 Xz1
  go_wp2_with (fail)
  refine (dm_i_f HD.out _).mono ?_
  rintro ee w3 ⟨rfl, hb3⟩
  have hz3 := hb3.size
  have hw3 : Below w.heap.size w w3 := chain hw2 hb3 hw2.size
  clear ca0 ca1 ca2 cb0 cb1 cb2 cz0 cz1 cz2
  clear fa la fb lb fz lz
  have Ya3 := hid (Ya2.out.mono hb3)
  have ca0 := Ya3.out.c 0 rfl
  have ca1 := Ya3.out.c 1 rfl
  have ca2 := Ya3.out.c 2 rfl
  have fa := Ya3.out.f
  have la := Ya3.out.lt
  have Yb3 := hid (Yb2.out.mono hb3)
  have cb0 := Yb3.out.c 0 rfl
  have cb1 := Yb3.out.c 1 rfl
  have cb2 := Yb3.out.c 2 rfl
  have fb := Yb3.out.f
  have lb := Yb3.out.lt
  have Yz3 := hid (Yz2.out.mono hb3)
  have cz0 := Yz3.out.c 0 rfl
  have cz1 := Yz3.out.c 1 rfl
  have cz2 := Yz3.out.c 2 rfl
  have fz := Yz3.out.f
  have lz := Yz3.out.lt
  go_wp2_with (fail)
  refine bodyPost_ret (v := mt 0 0 none 0 0 false) (by first | (simp [results, Try.results27, go_sem, *]; done) | (simp (disch := (first | omega | (simp; done) | (simp; omega))) [results, Try.results27, go_sem, *]; done) | (simp only [results, Try.results27]; go_simp; done)) rfl ⟨rfl, ?_⟩
  have hBq := hw3.size
  (repeat' (first | (with_reducible exact Below.refl _ _) | (with_reducible assumption) | (with_reducible refine Below.alloc ?_ ?_ _) | (with_reducible refine Below.drew ?_) | (with_reducible refine below_drewN ?_ _) | (with_reducible refine Below.setCell ?_ ?_ _) | (with_reducible refine chain ?_ (by assumption) ?_) | omega | (simp; done) | (simp; omega)))

set_option maxRecDepth 100000 in
set_option maxHeartbeats 4000000 in
theorem kr_i_q {ra ca rb cb P Q : Nat} {g0 h0 n m cp cp' : Nat} {xs ys : List D5} {w : World} (hA : Rd w (some ⟨g0, 0, none⟩) xs) (hB : Rd w (some ⟨h0, 0, none⟩) ys) (hn : xs.length = n) (hm : ys.length = m) (hok : okM (ra : Int) (ca : Int) n xs = true) (hok2 : okM (rb : Int) (cb : Int) m ys = true) (hP : P = ra * rb) (hd : dimB (P : Int) = true) (hQ : Q = ca * cb) (hd2 : dimB (Q : Int) = false) :
    Calls Try.prog 27 #[mv (ra : Int) (ca : Int) (some ⟨g0, 0, none⟩) n cp, mv (rb : Int) (cb : Int) (some ⟨h0, 0, none⟩) m cp'] w fun ee w' => ee = .returned (mt 0 0 none 0 0 false) ∧ Below w.heap.size w w' := by
  obtain ⟨hnn, a1, a2, a3, a4, a5⟩ := okM_nat2 hok
  obtain ⟨hmm, b1, b2, b3, b4, b5⟩ := okM_nat2 hok2
  have pe : (ra : Int) * (rb : Int) = (P : Int) := by rw [hP]; simp
  have pb : P ≤ 32 * 32 := by rw [hP]; exact Nat.mul_le_mul a2 b2
  have pw : IntKind.i64.wrap (P : Int) = (P : Int) := IntWalk.i64_in _ (by omega)
  have qe : (ca : Int) * (cb : Int) = (Q : Int) := by rw [hQ]; simp
  have qb : Q ≤ 32 * 32 := by rw [hQ]; exact Nat.mul_le_mul a4 b4
  have qw : IntKind.i64.wrap (Q : Int) = (Q : Int) := IntWalk.i64_in _ (by omega)
  have HD := hid hd
  clear hd
  have HD2 := hid hd2
  have EQ := hid hQ
  clear hd2 hQ
  have HA := hid hA
  have HB := hid hB
  have HN := hid hn
  have HM := hid hm
  have HO := hid hok
  have HP := hid hok2
  have HNN := hid hnn
  have HMM := hid hmm
  have EP := hid hP
  clear hA hB hn hm hok hok2 hnn hmm hP
  go_enter Try.func27, Try.ntmps27
  go_wp2_with (fail)
  refine (vm_i_t (xs := xs) HO.out ?_ HN.out).mono ?_
  · exact HA.out.mono (by (repeat' (first | (with_reducible exact Below.refl _ _) | (with_reducible assumption) | (with_reducible refine Below.alloc ?_ ?_ _) | (with_reducible refine Below.drew ?_) | (with_reducible refine below_drewN ?_ _) | (with_reducible refine Below.setCell ?_ ?_ _) | (with_reducible refine chain ?_ (by assumption) ?_) | omega | (simp; done) | (simp; omega))))
  rintro ee w1 ⟨rfl, hb1⟩
  obtain ⟨hc1, hf1, _⟩ := bcell hb1; have hz1 := hb1.size; (try simp at hz1); (try have hx10 : w.heap.size < w1.heap.size := (by omega)); (try have hx11 : w.heap.size + 1 < w1.heap.size := (by omega)); (try have hx12 : w.heap.size + 1 + 1 < w1.heap.size := (by omega)); (try have hx13 : w.heap.size + 1 + 1 + 1 < w1.heap.size := (by omega))
  have Xa1 : Hid (Bx w1 (w.heap.size) 26 #[.int .i64 (ra : Int), .int .i64 (ca : Int), .slice (some ⟨g0, 0, none⟩) n cp]) := by show Bx _ _ _ _; (repeat' (first | (with_reducible assumption) | (refine Bx.new (by first | (with_reducible rfl) | (simp; done))) | (with_reducible refine Bx.alloc ?_ _) | (with_reducible refine Bx.drew ?_) | (with_reducible refine Bx.drewN ?_ _) | (with_reducible refine Bx.mono ?_ (by assumption)) | (with_reducible refine Bx.badly ?_ (by assumption) (by omega)) | (with_reducible refine Bx.far ?_ (by (try simp only [World.size_alloc, World.size_drew]); omega)) | (with_reducible refine Bx.set ?_ rfl) | (with_reducible refine Bx.grown ?_ (by assumption) (by assumption))))
  have Xb1 : Hid (Bx w1 (w.heap.size + 1) 26 #[.int .i64 (rb : Int), .int .i64 (cb : Int), .slice (some ⟨h0, 0, none⟩) m cp']) := by show Bx _ _ _ _; (repeat' (first | (with_reducible assumption) | (refine Bx.new (by first | (with_reducible rfl) | (simp; done))) | (with_reducible refine Bx.alloc ?_ _) | (with_reducible refine Bx.drew ?_) | (with_reducible refine Bx.drewN ?_ _) | (with_reducible refine Bx.mono ?_ (by assumption)) | (with_reducible refine Bx.badly ?_ (by assumption) (by omega)) | (with_reducible refine Bx.far ?_ (by (try simp only [World.size_alloc, World.size_drew]); omega)) | (with_reducible refine Bx.set ?_ rfl) | (with_reducible refine Bx.grown ?_ (by assumption) (by assumption))))
  have Xz1 : Hid (Bx w1 (w.heap.size + 1 + 1) 26 #[.int .i64 0, .int .i64 0, .slice none 0 0]) := by show Bx _ _ _ _; (repeat' (first | (with_reducible assumption) | (refine Bx.new (by first | (with_reducible rfl) | (simp; done))) | (with_reducible refine Bx.alloc ?_ _) | (with_reducible refine Bx.drew ?_) | (with_reducible refine Bx.drewN ?_ _) | (with_reducible refine Bx.mono ?_ (by assumption)) | (with_reducible refine Bx.badly ?_ (by assumption) (by omega)) | (with_reducible refine Bx.far ?_ (by (try simp only [World.size_alloc, World.size_drew]); omega)) | (with_reducible refine Bx.set ?_ rfl) | (with_reducible refine Bx.grown ?_ (by assumption) (by assumption))))
  have hw1 : Below w.heap.size w w1 := by (repeat' (first | (with_reducible exact Below.refl _ _) | (with_reducible assumption) | (with_reducible refine Below.alloc ?_ ?_ _) | (with_reducible refine Below.drew ?_) | (with_reducible refine below_drewN ?_ _) | (with_reducible refine Below.setCell ?_ ?_ _) | (with_reducible refine chain ?_ (by assumption) ?_) | omega | (simp; done) | (simp; omega)))
  go_wp2_with (fail)
  refine (vm_i_t (xs := ys) HP.out ?_ HM.out).mono ?_
  · exact HB.out.mono (by (repeat' (first | (with_reducible exact Below.refl _ _) | (with_reducible assumption) | (with_reducible refine Below.alloc ?_ ?_ _) | (with_reducible refine Below.drew ?_) | (with_reducible refine below_drewN ?_ _) | (with_reducible refine Below.setCell ?_ ?_ _) | (with_reducible refine chain ?_ (by assumption) ?_) | omega | (simp; done) | (simp; omega))))
  rintro ee w2 ⟨rfl, hb2⟩
  have hz2 := hb2.size
  have hw2 : Below w.heap.size w w2 := chain hw1 hb2 hw1.size
  have Ya2 := hid (Xa1.out.mono hb2)
  have ca0 := Ya2.out.c 0 rfl
  have ca1 := Ya2.out.c 1 rfl
  have ca2 := Ya2.out.c 2 rfl
  have fa := Ya2.out.f
  have la := Ya2.out.lt
  have Yb2 := hid (Xb1.out.mono hb2)
  have cb0 := Yb2.out.c 0 rfl
  have cb1 := Yb2.out.c 1 rfl
  have cb2 := Yb2.out.c 2 rfl
  have fb := Yb2.out.f
  have lb := Yb2.out.lt
  have Yz2 := hid (Xz1.out.mono hb2)
  have cz0 := Yz2.out.c 0 rfl
  have cz1 := Yz2.out.c 1 rfl
  have cz2 := Yz2.out.c 2 rfl
  have fz := Yz2.out.f
  have lz := Yz2.out.lt
  clear Xa1 Xb1 Xz1
  go_wp2_with (fail)
  refine (dm_i_t HD.out _).mono ?_
  rintro ee w3 ⟨rfl, hb3⟩
  have hz3 := hb3.size
  have hw3 : Below w.heap.size w w3 := chain hw2 hb3 hw2.size
  clear ca0 ca1 ca2 cb0 cb1 cb2 cz0 cz1 cz2
  clear fa la fb lb fz lz
  have Ya3 := hid (Ya2.out.mono hb3)
  have ca0 := Ya3.out.c 0 rfl
  have ca1 := Ya3.out.c 1 rfl
  have ca2 := Ya3.out.c 2 rfl
  have fa := Ya3.out.f
  have la := Ya3.out.lt
  have Yb3 := hid (Yb2.out.mono hb3)
  have cb0 := Yb3.out.c 0 rfl
  have cb1 := Yb3.out.c 1 rfl
  have cb2 := Yb3.out.c 2 rfl
  have fb := Yb3.out.f
  have lb := Yb3.out.lt
  have Yz3 := hid (Yz2.out.mono hb3)
  have cz0 := Yz3.out.c 0 rfl
  have cz1 := Yz3.out.c 1 rfl
  have cz2 := Yz3.out.c 2 rfl
  have fz := Yz3.out.f
  have lz := Yz3.out.lt
  go_wp2_with (fail)
  refine (dm_i_f HD2.out _).mono ?_
  rintro ee w4 ⟨rfl, hb4⟩
  have hz4 := hb4.size
  have hw4 : Below w.heap.size w w4 := chain hw3 hb4 hw3.size
  clear ca0 ca1 ca2 cb0 cb1 cb2 cz0 cz1 cz2
  clear fa la fb lb fz lz
  have Ya4 := hid (Ya3.out.mono hb4)
  have ca0 := Ya4.out.c 0 rfl
  have ca1 := Ya4.out.c 1 rfl
  have ca2 := Ya4.out.c 2 rfl
  have fa := Ya4.out.f
  have la := Ya4.out.lt
  have Yb4 := hid (Yb3.out.mono hb4)
  have cb0 := Yb4.out.c 0 rfl
  have cb1 := Yb4.out.c 1 rfl
  have cb2 := Yb4.out.c 2 rfl
  have fb := Yb4.out.f
  have lb := Yb4.out.lt
  have Yz4 := hid (Yz3.out.mono hb4)
  have cz0 := Yz4.out.c 0 rfl
  have cz1 := Yz4.out.c 1 rfl
  have cz2 := Yz4.out.c 2 rfl
  have fz := Yz4.out.f
  have lz := Yz4.out.lt
  go_wp2_with (fail)
  refine bodyPost_ret (v := mt 0 0 none 0 0 false) (by first | (simp [results, Try.results27, go_sem, *]; done) | (simp (disch := (first | omega | (simp; done) | (simp; omega))) [results, Try.results27, go_sem, *]; done) | (simp only [results, Try.results27]; go_simp; done)) rfl ⟨rfl, ?_⟩
  have hBq := hw4.size
  (repeat' (first | (with_reducible exact Below.refl _ _) | (with_reducible assumption) | (with_reducible refine Below.alloc ?_ ?_ _) | (with_reducible refine Below.drew ?_) | (with_reducible refine below_drewN ?_ _) | (with_reducible refine Below.setCell ?_ ?_ _) | (with_reducible refine chain ?_ (by assumption) ?_) | omega | (simp; done) | (simp; omega)))

end Go.Proofs.Ytncgccpkbneagaa
