/- The program of ScaleMatrix. -/
import Derived.Test.YtncgccpkbneagaaScS
namespace Go.Proofs.Ytncgccpkbneagaa
open Go.RowKit RM
set_option linter.unusedVariables false
set_option linter.unusedSimpArgs false
attribute [local irreducible] World.setCell

theorem okM_one {x : D5} : okM ((1 : Nat) : Int) ((1 : Nat) : Int) 1 [x] = x.ok := by
  unfold okM allB; simp [dimB]
theorem kr_one {R C q : Nat} {x : D5} {ys : List D5} (hq : q < R * C) : krX C R C 1 [x] q = x ∧ krY C R C ys q = ys.getD q z5 := by
  have hC : 0 < C := by cases C with | zero => (rw [Nat.mul_zero] at hq; omega) | succ C => omega
  have h1 : q / C < R := Nat.div_lt_of_lt_mul (by rw [Nat.mul_comm]; exact hq)
  have h2 : q % C < C := Nat.mod_lt _ hC
  unfold krX krY
  rw [Nat.div_eq_of_lt h1, Nat.div_eq_of_lt h2, Nat.mod_eq_of_lt h1, Nat.mod_mod, Nat.mul_comm (q / C) C, Nat.div_add_mod]
  exact ⟨rfl, rfl⟩
theorem scF_kr {R C : Nat} {x : D5} {ys : List D5} : tab (R * C) (krF C R C 1 [x] ys) = tab (R * C) (scF ys x) := tab_congr (fun q hq => by
  unfold krF scF; rw [(kr_one (x := x) (ys := ys) hq).1, (kr_one (x := x) (ys := ys) hq).2, mulS_comm])
theorem scG_kr {R C : Nat} {x : D5} {ys : List D5} : anyB (R * C) (krG C R C 1 [x] ys) = anyB (R * C) (scG ys x) := anyB_congr (fun q hq => by
  unfold krG scG; rw [(kr_one (x := x) (ys := ys) hq).1, (kr_one (x := x) (ys := ys) hq).2, mulS_comm])
theorem rd_one {W : World} {b : Nat} {t : TypeId} {x : D5} (h : Bx W b t #[.int .i64 x.a, .int .i64 x.b, .int .i64 x.c, .int .i64 x.d, .int .i64 x.e]) : Rd W (some ⟨b, 0, none⟩) [x] := by
  intro k y hk
  cases k with
  | zero =>
    simp only [List.getElem?_cons_zero, Option.some.injEq] at hk
    subst hk
    exact ⟨b, 0, rfl, h.c 0 rfl, h.c 1 rfl, h.c 2 rfl, h.c 3 rfl, h.c 4 rfl⟩
  | succ k => simp at hk

set_option maxRecDepth 100000 in
set_option maxHeartbeats 4000000 in
theorem sc_i_x {r c : Int} {g0 n cp : Nat} {xs : List D5} {x : D5} {w : World} (hA : Rd w (some ⟨g0, 0, none⟩) xs) (hn : xs.length = n) (hx : x.ok = false) :
    Calls Try.prog 37 #[mv r c (some ⟨g0, 0, none⟩) n cp, dy x.a x.b x.c x.d x.e] w fun ee w' => ee = .returned (mt 0 0 none 0 0 false) ∧ Below w.heap.size w w' := by
  have HX : Hid (okM ((1 : Nat) : Int) ((1 : Nat) : Int) 1 [x] = false) := by show _ = _; rw [okM_one]; exact hx
  have HA := hid hA
  have HN := hid hn
  clear hA hn hx
  go_enter Try.func37, Try.ntmps37
  go_wp2_with (fail)
  refine (kr_i_v1 (r := ((1 : Nat) : Int)) (c := ((1 : Nat) : Int)) (xs := [x]) (ys := xs) ?_ ?_ rfl HN.out HX.out).mono ?_
  · exact rd_one (b := w.heap.size + 1 + 1 + 1) (t := 37) (by (repeat' (first | (with_reducible assumption) | (refine Bx.new (by first | (with_reducible rfl) | (simp; done))) | (with_reducible refine Bx.alloc ?_ _) | (with_reducible refine Bx.drew ?_) | (with_reducible refine Bx.drewN ?_ _) | (with_reducible refine Bx.mono ?_ (by assumption)) | (with_reducible refine Bx.badly ?_ (by assumption) (by omega)) | (with_reducible refine Bx.far ?_ (by (try simp only [World.size_alloc, World.size_drew]); omega)) | (with_reducible refine Bx.set ?_ rfl) | (with_reducible refine Bx.grown ?_ (by assumption) (by assumption)))))
  · exact HA.out.mono (by (repeat' (first | (with_reducible exact Below.refl _ _) | (with_reducible assumption) | (with_reducible refine Below.alloc ?_ ?_ _) | (with_reducible refine Below.drew ?_) | (with_reducible refine below_drewN ?_ _) | (with_reducible refine Below.setCell ?_ ?_ _) | (with_reducible refine chain ?_ (by assumption) ?_) | omega | (simp; done) | (simp; omega))))
  rintro ee w1 ⟨rfl, hb1⟩
  have Xz := hid (Bx.mono (b := w.heap.size + 1 + 1) (t := 26) (cs := #[.int .i64 0, .int .i64 0, .slice none 0 0]) (by (repeat' (first | (with_reducible assumption) | (refine Bx.new (by first | (with_reducible rfl) | (simp; done))) | (with_reducible refine Bx.alloc ?_ _) | (with_reducible refine Bx.drew ?_) | (with_reducible refine Bx.drewN ?_ _) | (with_reducible refine Bx.mono ?_ (by assumption)) | (with_reducible refine Bx.badly ?_ (by assumption) (by omega)) | (with_reducible refine Bx.far ?_ (by (try simp only [World.size_alloc, World.size_drew]); omega)) | (with_reducible refine Bx.set ?_ rfl) | (with_reducible refine Bx.grown ?_ (by assumption) (by assumption))))) hb1)
  have hz1 := hb1.size
  (try simp only [World.size_alloc] at hz1)
  have cz0 := Xz.out.c 0 rfl
  have cz1 := Xz.out.c 1 rfl
  have cz2 := Xz.out.c 2 rfl
  have fz := Xz.out.f
  have lz := Xz.out.lt
  have hB1 : Below w.heap.size w w1 := by (repeat' (first | (with_reducible exact Below.refl _ _) | (with_reducible assumption) | (with_reducible refine Below.alloc ?_ ?_ _) | (with_reducible refine Below.drew ?_) | (with_reducible refine below_drewN ?_ _) | (with_reducible refine Below.setCell ?_ ?_ _) | (with_reducible refine chain ?_ (by assumption) ?_) | omega | (simp; done) | (simp; omega)))
  clear hb1
  go_wp2_with (fail)
  refine bodyPost_ret (v := mt 0 0 none 0 0 false) (by first | (simp [results, Try.results37, go_sem, *]; done) | (simp (disch := (first | omega | (simp; done) | (simp; omega))) [results, Try.results37, go_sem, *]; done) | (simp only [results, Try.results37]; go_simp; done)) rfl ⟨rfl, ?_⟩
  (repeat' (first | (with_reducible exact Below.refl _ _) | (with_reducible assumption) | (with_reducible refine Below.alloc ?_ ?_ _) | (with_reducible refine Below.drew ?_) | (with_reducible refine below_drewN ?_ _) | (with_reducible refine Below.setCell ?_ ?_ _) | (with_reducible refine chain ?_ (by assumption) ?_) | omega | (simp; done) | (simp; omega)))

set_option maxRecDepth 100000 in
set_option maxHeartbeats 4000000 in
theorem sc_i_v {r c : Int} {g0 n cp : Nat} {xs : List D5} {x : D5} {w : World} (hA : Rd w (some ⟨g0, 0, none⟩) xs) (hn : xs.length = n) (hok : okM r c n xs = false) (hx : x.ok = true) :
    Calls Try.prog 37 #[mv r c (some ⟨g0, 0, none⟩) n cp, dy x.a x.b x.c x.d x.e] w fun ee w' => ee = .returned (mt 0 0 none 0 0 false) ∧ Below w.heap.size w w' := by
  have HX : Hid (okM ((1 : Nat) : Int) ((1 : Nat) : Int) 1 [x] = true) := by show _ = _; rw [okM_one]; exact hx
  have HA := hid hA
  have HN := hid hn
  have HO := hid hok
  clear hA hn hok
  clear hx
  go_enter Try.func37, Try.ntmps37
  go_wp2_with (fail)
  refine (kr_i_v2 (r := ((1 : Nat) : Int)) (c := ((1 : Nat) : Int)) (xs := [x]) (ys := xs) ?_ ?_ rfl HN.out HX.out HO.out).mono ?_
  · exact rd_one (b := w.heap.size + 1 + 1 + 1) (t := 37) (by (repeat' (first | (with_reducible assumption) | (refine Bx.new (by first | (with_reducible rfl) | (simp; done))) | (with_reducible refine Bx.alloc ?_ _) | (with_reducible refine Bx.drew ?_) | (with_reducible refine Bx.drewN ?_ _) | (with_reducible refine Bx.mono ?_ (by assumption)) | (with_reducible refine Bx.badly ?_ (by assumption) (by omega)) | (with_reducible refine Bx.far ?_ (by (try simp only [World.size_alloc, World.size_drew]); omega)) | (with_reducible refine Bx.set ?_ rfl) | (with_reducible refine Bx.grown ?_ (by assumption) (by assumption)))))
  · exact HA.out.mono (by (repeat' (first | (with_reducible exact Below.refl _ _) | (with_reducible assumption) | (with_reducible refine Below.alloc ?_ ?_ _) | (with_reducible refine Below.drew ?_) | (with_reducible refine below_drewN ?_ _) | (with_reducible refine Below.setCell ?_ ?_ _) | (with_reducible refine chain ?_ (by assumption) ?_) | omega | (simp; done) | (simp; omega))))
  rintro ee w1 ⟨rfl, hb1⟩
  have Xz := hid (Bx.mono (b := w.heap.size + 1 + 1) (t := 26) (cs := #[.int .i64 0, .int .i64 0, .slice none 0 0]) (by (repeat' (first | (with_reducible assumption) | (refine Bx.new (by first | (with_reducible rfl) | (simp; done))) | (with_reducible refine Bx.alloc ?_ _) | (with_reducible refine Bx.drew ?_) | (with_reducible refine Bx.drewN ?_ _) | (with_reducible refine Bx.mono ?_ (by assumption)) | (with_reducible refine Bx.badly ?_ (by assumption) (by omega)) | (with_reducible refine Bx.far ?_ (by (try simp only [World.size_alloc, World.size_drew]); omega)) | (with_reducible refine Bx.set ?_ rfl) | (with_reducible refine Bx.grown ?_ (by assumption) (by assumption))))) hb1)
  have hz1 := hb1.size
  (try simp only [World.size_alloc] at hz1)
  have cz0 := Xz.out.c 0 rfl
  have cz1 := Xz.out.c 1 rfl
  have cz2 := Xz.out.c 2 rfl
  have fz := Xz.out.f
  have lz := Xz.out.lt
  have hB1 : Below w.heap.size w w1 := by (repeat' (first | (with_reducible exact Below.refl _ _) | (with_reducible assumption) | (with_reducible refine Below.alloc ?_ ?_ _) | (with_reducible refine Below.drew ?_) | (with_reducible refine below_drewN ?_ _) | (with_reducible refine Below.setCell ?_ ?_ _) | (with_reducible refine chain ?_ (by assumption) ?_) | omega | (simp; done) | (simp; omega)))
  clear hb1
  go_wp2_with (fail)
  refine bodyPost_ret (v := mt 0 0 none 0 0 false) (by first | (simp [results, Try.results37, go_sem, *]; done) | (simp (disch := (first | omega | (simp; done) | (simp; omega))) [results, Try.results37, go_sem, *]; done) | (simp only [results, Try.results37]; go_simp; done)) rfl ⟨rfl, ?_⟩
  (repeat' (first | (with_reducible exact Below.refl _ _) | (with_reducible assumption) | (with_reducible refine Below.alloc ?_ ?_ _) | (with_reducible refine Below.drew ?_) | (with_reducible refine below_drewN ?_ _) | (with_reducible refine Below.setCell ?_ ?_ _) | (with_reducible refine chain ?_ (by assumption) ?_) | omega | (simp; done) | (simp; omega)))

set_option maxRecDepth 100000 in
set_option maxHeartbeats 4000000 in
theorem sc_i_t {R C : Nat} {g0 n cp : Nat} {xs : List D5} {x : D5} {w : World} (hA : Rd w (some ⟨g0, 0, none⟩) xs) (hn : xs.length = n) (hok : okM (R : Int) (C : Int) n xs = true) (hx : x.ok = true) (hc1 : n ≤ cp) (hc2 : cp ≤ 1048576) :
    Calls Try.prog 37 #[mv (R : Int) (C : Int) (some ⟨g0, 0, none⟩) n cp, dy x.a x.b x.c x.d x.e] w fun ee w' => IR w w' ee (R : Int) (C : Int) n (tab n (scF xs x)) (anyB n (scG xs x)) := by
  obtain ⟨hnn, -⟩ := okM_nat2 hok
  have d1 := (okM_iff.1 hok).1
  have d2 := (okM_iff.1 hok).2.1
  have D1 := hid d1
  have D2 := hid d2
  have NN := hid hnn
  have hX : okM ((1 : Nat) : Int) ((1 : Nat) : Int) 1 [x] = true := by rw [okM_one]; exact hx
  have HX := hid hX
  clear hx hX d1 d2 hnn
  have HA := hid hA
  have HN := hid hn
  have HO := hid hok
  clear hA hn hok
  go_enter Try.func37, Try.ntmps37
  go_wp2_with (fail)
  refine (kr_i_t (ra := 1) (ca := 1) (rb := R) (cb := C) (P := R) (Q := C) (N := n) (n := 1) (cp := 1) (xs := [x]) (ys := xs) ?_ ?_ rfl HN.out HX.out HO.out (Nat.one_mul _).symm D1.out (Nat.one_mul _).symm D2.out NN.out (Nat.le_refl _) (by decide) hc1 hc2).mono ?_
  · exact rd_one (b := w.heap.size + 1 + 1 + 1) (t := 37) (by (repeat' (first | (with_reducible assumption) | (refine Bx.new (by first | (with_reducible rfl) | (simp; done))) | (with_reducible refine Bx.alloc ?_ _) | (with_reducible refine Bx.drew ?_) | (with_reducible refine Bx.drewN ?_ _) | (with_reducible refine Bx.mono ?_ (by assumption)) | (with_reducible refine Bx.badly ?_ (by assumption) (by omega)) | (with_reducible refine Bx.far ?_ (by (try simp only [World.size_alloc, World.size_drew]); omega)) | (with_reducible refine Bx.set ?_ rfl) | (with_reducible refine Bx.grown ?_ (by assumption) (by assumption)))))
  · exact HA.out.mono (by (repeat' (first | (with_reducible exact Below.refl _ _) | (with_reducible assumption) | (with_reducible refine Below.alloc ?_ ?_ _) | (with_reducible refine Below.drew ?_) | (with_reducible refine below_drewN ?_ _) | (with_reducible refine Below.setCell ?_ ?_ _) | (with_reducible refine chain ?_ (by assumption) ?_) | omega | (simp; done) | (simp; omega))))
  rintro ee w1 hir
  rw [NN.out, scF_kr, scG_kr, ← NN.out] at hir
  obtain ⟨h1, h2, hb1⟩ := hir
  cases hany : anyB n (scG xs x)
  · obtain ⟨g, rfl, hk, hg⟩ := h2 hany
    have HK := hid hk
    clear h1 h2 hk
    (try simp only [World.size_alloc] at hg)
    have Xz := hid (Bx.mono (b := w.heap.size + 1 + 1) (t := 26) (cs := #[.int .i64 0, .int .i64 0, .slice none 0 0]) (by (repeat' (first | (with_reducible assumption) | (refine Bx.new (by first | (with_reducible rfl) | (simp; done))) | (with_reducible refine Bx.alloc ?_ _) | (with_reducible refine Bx.drew ?_) | (with_reducible refine Bx.drewN ?_ _) | (with_reducible refine Bx.mono ?_ (by assumption)) | (with_reducible refine Bx.badly ?_ (by assumption) (by omega)) | (with_reducible refine Bx.far ?_ (by (try simp only [World.size_alloc, World.size_drew]); omega)) | (with_reducible refine Bx.set ?_ rfl) | (with_reducible refine Bx.grown ?_ (by assumption) (by assumption))))) hb1)
    have hz1 := hb1.size
    (try simp only [World.size_alloc] at hz1)
    have cz0 := Xz.out.c 0 rfl
    have cz1 := Xz.out.c 1 rfl
    have cz2 := Xz.out.c 2 rfl
    have fz := Xz.out.f
    have lz := Xz.out.lt
    have hB1 : Below w.heap.size w w1 := by (repeat' (first | (with_reducible exact Below.refl _ _) | (with_reducible assumption) | (with_reducible refine Below.alloc ?_ ?_ _) | (with_reducible refine Below.drew ?_) | (with_reducible refine below_drewN ?_ _) | (with_reducible refine Below.setCell ?_ ?_ _) | (with_reducible refine chain ?_ (by assumption) ?_) | omega | (simp; done) | (simp; omega)))
    clear hb1
    go_wp2_with (fail)
    refine bodyPost_ret (v := mt (R : Int) (C : Int) (some ⟨g, 0, none⟩) n n true) (by first | (simp [results, Try.results37, go_sem, *]; done) | (simp (disch := (first | omega | (simp; done) | (simp; omega))) [results, Try.results37, go_sem, *]; done) | (simp only [results, Try.results37]; go_simp; done)) rfl ⟨fun h => ?_, fun _ => ?_, ?_⟩
    · rw [hany] at h; cases h
    · refine ⟨g, rfl, ?_, by omega⟩
      (repeat' (first | exact HK.out | refine Bk.far ?_ (by show g ≠ w.heap.size + 1 + 1; omega) _))
    · (repeat' (first | (with_reducible exact Below.refl _ _) | (with_reducible assumption) | (with_reducible refine Below.alloc ?_ ?_ _) | (with_reducible refine Below.drew ?_) | (with_reducible refine below_drewN ?_ _) | (with_reducible refine Below.setCell ?_ ?_ _) | (with_reducible refine chain ?_ (by assumption) ?_) | omega | (simp; done) | (simp; omega)))
  · obtain rfl := h1 hany
    clear h1 h2
    have Xz := hid (Bx.mono (b := w.heap.size + 1 + 1) (t := 26) (cs := #[.int .i64 0, .int .i64 0, .slice none 0 0]) (by (repeat' (first | (with_reducible assumption) | (refine Bx.new (by first | (with_reducible rfl) | (simp; done))) | (with_reducible refine Bx.alloc ?_ _) | (with_reducible refine Bx.drew ?_) | (with_reducible refine Bx.drewN ?_ _) | (with_reducible refine Bx.mono ?_ (by assumption)) | (with_reducible refine Bx.badly ?_ (by assumption) (by omega)) | (with_reducible refine Bx.far ?_ (by (try simp only [World.size_alloc, World.size_drew]); omega)) | (with_reducible refine Bx.set ?_ rfl) | (with_reducible refine Bx.grown ?_ (by assumption) (by assumption))))) hb1)
    have hz1 := hb1.size
    (try simp only [World.size_alloc] at hz1)
    have cz0 := Xz.out.c 0 rfl
    have cz1 := Xz.out.c 1 rfl
    have cz2 := Xz.out.c 2 rfl
    have fz := Xz.out.f
    have lz := Xz.out.lt
    have hB1 : Below w.heap.size w w1 := by (repeat' (first | (with_reducible exact Below.refl _ _) | (with_reducible assumption) | (with_reducible refine Below.alloc ?_ ?_ _) | (with_reducible refine Below.drew ?_) | (with_reducible refine below_drewN ?_ _) | (with_reducible refine Below.setCell ?_ ?_ _) | (with_reducible refine chain ?_ (by assumption) ?_) | omega | (simp; done) | (simp; omega)))
    clear hb1
    go_wp2_with (fail)
    refine bodyPost_ret (v := mt 0 0 none 0 0 false) (by first | (simp [results, Try.results37, go_sem, *]; done) | (simp (disch := (first | omega | (simp; done) | (simp; omega))) [results, Try.results37, go_sem, *]; done) | (simp only [results, Try.results37]; go_simp; done)) rfl ⟨fun _ => rfl, fun h => ?_, ?_⟩
    · rw [hany] at h; cases h
    · (repeat' (first | (with_reducible exact Below.refl _ _) | (with_reducible assumption) | (with_reducible refine Below.alloc ?_ ?_ _) | (with_reducible refine Below.drew ?_) | (with_reducible refine below_drewN ?_ _) | (with_reducible refine Below.setCell ?_ ?_ _) | (with_reducible refine chain ?_ (by assumption) ?_) | omega | (simp; done) | (simp; omega)))

end Go.Proofs.Ytncgccpkbneagaa
