/- The model of TraceOf. -/
import Derived.Test.YtdgcanlbdneelaaBad3
import Derived.Test.YtdgcanlbdneelaaColI
namespace Go.Proofs.Ytdgcanlbdneelaa
open Go.RowKit RM
set_option linter.unusedVariables false
set_option linter.unusedSimpArgs false
attribute [local irreducible] World.setCell

/-- the sum of the first j numbers of the diagonal, and whether it failed -/
def trF (c : Nat) (xs : List D5) : Nat → D5 × Bool
  | 0 => (z5, false)
  | j + 1 => addS (trF c xs j).2 (trF c xs j).1 (xs.getD (j * c + j) z5)
theorem trF_up {c : Nat} {xs : List D5} {j k : Nat} (h : (trF c xs j).2 = true) (hk : j ≤ k) : (trF c xs k).2 = true := by
  obtain ⟨q, rfl⟩ := Nat.exists_eq_add_of_le hk
  clear hk
  induction q with
  | zero => exact h
  | succ q ih => show (addS (trF c xs (j + q)).2 _ _).2 = true; rw [ih]; exact addS_t
theorem trF_next {c : Nat} {xs : List D5} {j : Nat} {s x : D5} {z : Bool} (h : trF c xs j = (s, z)) (hx : xs.getD (j * c + j) z5 = x) : trF c xs (j + 1) = addS z s x := by
  show addS (trF c xs j).2 (trF c xs j).1 _ = _
  rw [h, hx]
def TR (w w' : World) (ee : Ending) (p : D5 × Bool) : Prop :=
  (p.2 = true → ee = .returned (dt 0 0 0 0 0 false)) ∧ (p.2 = false → ee = .returned (dt p.1.a p.1.b p.1.c p.1.d p.1.e true)) ∧ Below w.heap.size w w'
theorem TR.t {w w' : World} {p : D5 × Bool} {s : D5} (h : p = (s, false)) (hb : Below w.heap.size w w') : TR w w' (.returned (dt s.a s.b s.c s.d s.e true)) p := by
  subst h; exact ⟨fun h => (by cases h), fun _ => rfl, hb⟩
theorem TR.f {w w' : World} {p : D5 × Bool} (h : p.2 = true) (hb : Below w.heap.size w w') : TR w w' (.returned (dt 0 0 0 0 0 false)) p :=
  ⟨fun _ => rfl, fun k => (by rw [h] at k; cases k), hb⟩
theorem Bx.set5 {W : World} {b : Nat} {t : TypeId} {x : D5} (y : D5) (h : Bx W b t #[.int .i64 x.a, .int .i64 x.b, .int .i64 x.c, .int .i64 x.d, .int .i64 x.e]) : Bx (Go.Proofs.Ytdgcanlbdneelaa.set5 W b 0 y) b t #[.int .i64 y.a, .int .i64 y.b, .int .i64 y.c, .int .i64 y.d, .int .i64 y.e] :=
  ((((h.set (i := 0) (u := .int .i64 y.a) rfl).set (i := 0 + 1) (u := .int .i64 y.b) rfl).set (i := 0 + 2) (u := .int .i64 y.c) rfl).set (i := 0 + 3) (u := .int .i64 y.d) rfl).set (i := 0 + 4) (u := .int .i64 y.e) rfl
theorem Bx.far5 {W : World} {b g o : Nat} {t : TypeId} {cs : Array Value} (y : D5) (h : Bx W b t cs) (hp : b ≠ g) : Bx (Go.Proofs.Ytdgcanlbdneelaa.set5 W g o y) b t cs :=
  (set5_far hp).trans h

set_option maxRecDepth 100000 in
set_option maxHeartbeats 4000000 in
theorem tr_s_v {r c : Int} {A : Option Addr} {n cp : Nat} {xs : List D5} {w : World} (hA : Rd w A xs) (hn : xs.length = n) (hok : okM r c n xs = false) :
    Calls Try.prog 44 #[mv r c A n cp] w fun ee w' => ee = .returned (dt 0 0 0 0 0 false) ∧ Below w.heap.size w w' := by
  have HA := hid hA
  have HN := hid hn
  have HO := hid hok
  clear hA hn hok
  go_enter Try.func44, Try.ntmps44
  go_wp2_with (fail)
  refine (vm_s_f (xs := xs) HO.out ?_ HN.out).mono ?_
  · exact HA.out.mono (by (repeat' (first | (with_reducible exact Below.refl _ _) | (with_reducible assumption) | (with_reducible refine Below.alloc ?_ ?_ _) | (with_reducible refine Below.drew ?_) | (with_reducible refine below_drewN ?_ _) | (with_reducible refine Below.setCell ?_ ?_ _) | (with_reducible refine chain ?_ (by assumption) ?_) | omega | (simp; done) | (simp; omega))))
  rintro ee w1 ⟨rfl, hb1⟩
  obtain ⟨hc1, hf1, _⟩ := bcell hb1; have hz1 := hb1.size; (try simp at hz1); (try have hx10 : w.heap.size < w1.heap.size := (by omega)); (try have hx11 : w.heap.size + 1 < w1.heap.size := (by omega)); (try have hx12 : w.heap.size + 1 + 1 < w1.heap.size := (by omega)); (try have hx13 : w.heap.size + 1 + 1 + 1 < w1.heap.size := (by omega))
  go_wp2_with (fail)
  refine bodyPost_ret (v := dt 0 0 0 0 0 false) (by first | (simp [results, Try.results44, go_sem, *]; done) | (simp (disch := (first | omega | (simp; done) | (simp; omega))) [results, Try.results44, go_sem, *]; done) | (simp only [results, Try.results44]; go_simp; done)) rfl ⟨rfl, ?_⟩
  (repeat' (first | (with_reducible exact Below.refl _ _) | (with_reducible assumption) | (with_reducible refine Below.alloc ?_ ?_ _) | (with_reducible refine Below.drew ?_) | (with_reducible refine below_drewN ?_ _) | (with_reducible refine Below.setCell ?_ ?_ _) | (with_reducible refine chain ?_ (by assumption) ?_) | omega | (simp; done) | (simp; omega)))

set_option maxRecDepth 100000 in
set_option maxHeartbeats 4000000 in
theorem tr_s_n {r c : Int} {A : Option Addr} {n cp : Nat} {xs : List D5} {w : World} (hA : Rd w A xs) (hn : xs.length = n) (hok : okM r c n xs = true) (hr : r ≠ c) :
    Calls Try.prog 44 #[mv r c A n cp] w fun ee w' => ee = .returned (dt 0 0 0 0 0 false) ∧ Below w.heap.size w w' := by
  have h1 : (r != c) = true := by simpa using hr
  have HA := hid hA
  have HN := hid hn
  have HO := hid hok
  clear hA hn hok
  go_enter Try.func44, Try.ntmps44
  go_wp2_with (fail)
  refine (vm_s_t (xs := xs) HO.out ?_ HN.out).mono ?_
  · exact HA.out.mono (by (repeat' (first | (with_reducible exact Below.refl _ _) | (with_reducible assumption) | (with_reducible refine Below.alloc ?_ ?_ _) | (with_reducible refine Below.drew ?_) | (with_reducible refine below_drewN ?_ _) | (with_reducible refine Below.setCell ?_ ?_ _) | (with_reducible refine chain ?_ (by assumption) ?_) | omega | (simp; done) | (simp; omega))))
  rintro ee w1 ⟨rfl, hb1⟩
  obtain ⟨hc1, hf1, _⟩ := bcell hb1; have hz1 := hb1.size; (try simp at hz1); (try have hx10 : w.heap.size < w1.heap.size := (by omega)); (try have hx11 : w.heap.size + 1 < w1.heap.size := (by omega)); (try have hx12 : w.heap.size + 1 + 1 < w1.heap.size := (by omega)); (try have hx13 : w.heap.size + 1 + 1 + 1 < w1.heap.size := (by omega))
  go_wp2_with (fail)
  refine bodyPost_ret (v := dt 0 0 0 0 0 false) (by first | (simp [results, Try.results44, go_sem, *]; done) | (simp (disch := (first | omega | (simp; done) | (simp; omega))) [results, Try.results44, go_sem, *]; done) | (simp only [results, Try.results44]; go_simp; done)) rfl ⟨rfl, ?_⟩
  (repeat' (first | (with_reducible exact Below.refl _ _) | (with_reducible assumption) | (with_reducible refine Below.alloc ?_ ?_ _) | (with_reducible refine Below.drew ?_) | (with_reducible refine below_drewN ?_ _) | (with_reducible refine Below.setCell ?_ ?_ _) | (with_reducible refine chain ?_ (by assumption) ?_) | omega | (simp; done) | (simp; omega)))

set_option maxRecDepth 100000 in
set_option maxHeartbeats 8000000 in
theorem tr_s_t {C : Nat} {A : Option Addr} {n cp : Nat} {xs : List D5} {w : World} (hA : Rd w A xs) (hn : xs.length = n) (hok : okM (C : Int) (C : Int) n xs = true) :
    Calls Try.prog 44 #[mv (C : Int) (C : Int) A n cp] w fun ee w' => TR w w' ee (trF C xs C) := by
  obtain ⟨hnn, h1, h2, h3, h4, h5⟩ := okM_nat2 hok
  have HNN := hid hnn
  clear hnn
  have HA := hid hA
  have HN := hid hn
  have HO := hid hok
  clear hA hn hok
  go_enter Try.func44, Try.ntmps44
  go_wp2_with (fail)
  refine (vm_s_t (xs := xs) HO.out ?_ HN.out).mono ?_
  · exact HA.out.mono (by (repeat' (first | (with_reducible exact Below.refl _ _) | (with_reducible assumption) | (with_reducible refine Below.alloc ?_ ?_ _) | (with_reducible refine Below.drew ?_) | (with_reducible refine below_drewN ?_ _) | (with_reducible refine Below.setCell ?_ ?_ _) | (with_reducible refine chain ?_ (by assumption) ?_) | omega | (simp; done) | (simp; omega))))
  rintro ee w1 ⟨rfl, hb1⟩
  obtain ⟨hc1, hf1, _⟩ := bcell hb1; have hz1 := hb1.size; (try simp at hz1); (try have hx10 : w.heap.size < w1.heap.size := (by omega)); (try have hx11 : w.heap.size + 1 < w1.heap.size := (by omega)); (try have hx12 : w.heap.size + 1 + 1 < w1.heap.size := (by omega)); (try have hx13 : w.heap.size + 1 + 1 + 1 < w1.heap.size := (by omega))
  have Xa1 : Hid (Bx w1 (w.heap.size) 26 #[.int .i64 (C : Int), .int .i64 (C : Int), .slice A n cp]) := by show Bx _ _ _ _; (repeat' (first | (with_reducible assumption) | (refine Bx.new (by first | (with_reducible rfl) | (simp; done))) | (with_reducible refine Bx.alloc ?_ _) | (with_reducible refine Bx.drew ?_) | (with_reducible refine Bx.drewN ?_ _) | (with_reducible refine Bx.mono ?_ (by assumption)) | (with_reducible refine Bx.badly ?_ (by assumption) (by omega)) | (with_reducible refine Bx.far ?_ (by (try simp only [World.size_alloc, World.size_drew]); omega)) | (with_reducible refine Bx.set ?_ rfl) | (with_reducible refine Bx.grown ?_ (by assumption) (by assumption))))
  have Xz1 : Hid (Bx w1 (w.heap.size + 1) 37 #[.int .i64 0, .int .i64 0, .int .i64 0, .int .i64 0, .int .i64 0]) := by show Bx _ _ _ _; (repeat' (first | (with_reducible assumption) | (refine Bx.new (by first | (with_reducible rfl) | (simp; done))) | (with_reducible refine Bx.alloc ?_ _) | (with_reducible refine Bx.drew ?_) | (with_reducible refine Bx.drewN ?_ _) | (with_reducible refine Bx.mono ?_ (by assumption)) | (with_reducible refine Bx.badly ?_ (by assumption) (by omega)) | (with_reducible refine Bx.far ?_ (by (try simp only [World.size_alloc, World.size_drew]); omega)) | (with_reducible refine Bx.set ?_ rfl) | (with_reducible refine Bx.grown ?_ (by assumption) (by assumption))))
  have hw1 : Below w.heap.size w w1 := by (repeat' (first | (with_reducible exact Below.refl _ _) | (with_reducible assumption) | (with_reducible refine Below.alloc ?_ ?_ _) | (with_reducible refine Below.drew ?_) | (with_reducible refine below_drewN ?_ _) | (with_reducible refine Below.setCell ?_ ?_ _) | (with_reducible refine chain ?_ (by assumption) ?_) | omega | (simp; done) | (simp; omega)))
  go_wp2_with (fail)
  go_loopg [6] C (fun q s1 wr => ∃ (j : Nat) (s : D5) (z : Bool), j + q = C ∧ s1 = .int .i64 (j : Int) ∧ Hid (Bx wr (w.heap.size) 26 #[.int .i64 (C : Int), .int .i64 (C : Int), .slice A n cp]) ∧ Hid (Bx wr (w.heap.size + 1) 37 #[.int .i64 0, .int .i64 0, .int .i64 0, .int .i64 0, .int .i64 0]) ∧ Hid (Bx wr (w1.heap.size) 76 #[.bool z]) ∧ Hid (Bx wr (w1.heap.size + 1) 37 #[.int .i64 s.a, .int .i64 s.b, .int .i64 s.c, .int .i64 s.d, .int .i64 s.e]) ∧ Hid (trF C xs j = (s, z)) ∧ Hid (s.ok = true) ∧ w1.heap.size + 1 + 1 ≤ wr.heap.size ∧ Below w.heap.size w wr)
  case atStart =>
    have R1 := Xa1.out
    have R2 := Xz1.out
    exact ⟨0, z5, false, by omega, rfl, (by show Bx _ _ _ _; (repeat' (first | (with_reducible assumption) | (with_reducible refine Bx.alloc ?_ _) | (with_reducible refine Bx.drew ?_) | (with_reducible refine Bx.drewN ?_ _) | (with_reducible refine Bx.mono ?_ (by assumption)) | (with_reducible refine Bx.badly ?_ (by assumption) (by omega)) | (with_reducible refine Bx.far ?_ (by (try simp only [World.size_alloc, World.size_drew]); omega)) | (with_reducible refine Bx.set ?_ rfl) | (with_reducible refine Bx.grown ?_ (by assumption) (by assumption))))), (by show Bx _ _ _ _; (repeat' (first | (with_reducible assumption) | (with_reducible refine Bx.alloc ?_ _) | (with_reducible refine Bx.drew ?_) | (with_reducible refine Bx.drewN ?_ _) | (with_reducible refine Bx.mono ?_ (by assumption)) | (with_reducible refine Bx.badly ?_ (by assumption) (by omega)) | (with_reducible refine Bx.far ?_ (by (try simp only [World.size_alloc, World.size_drew]); omega)) | (with_reducible refine Bx.set ?_ rfl) | (with_reducible refine Bx.grown ?_ (by assumption) (by assumption))))), (by show Bx _ _ _ _; (repeat' (first | (with_reducible assumption) | (refine Bx.new (by first | (with_reducible rfl) | (simp; done))) | (with_reducible refine Bx.alloc ?_ _) | (with_reducible refine Bx.drew ?_) | (with_reducible refine Bx.drewN ?_ _) | (with_reducible refine Bx.mono ?_ (by assumption)) | (with_reducible refine Bx.badly ?_ (by assumption) (by omega)) | (with_reducible refine Bx.far ?_ (by (try simp only [World.size_alloc, World.size_drew]); omega)) | (with_reducible refine Bx.set ?_ rfl) | (with_reducible refine Bx.grown ?_ (by assumption) (by assumption))))), (by show Bx _ _ _ _; (repeat' (first | (with_reducible assumption) | (refine Bx.new (by first | (with_reducible rfl) | (simp; done))) | (with_reducible refine Bx.alloc ?_ _) | (with_reducible refine Bx.drew ?_) | (with_reducible refine Bx.drewN ?_ _) | (with_reducible refine Bx.mono ?_ (by assumption)) | (with_reducible refine Bx.badly ?_ (by assumption) (by omega)) | (with_reducible refine Bx.far ?_ (by (try simp only [World.size_alloc, World.size_drew]); omega)) | (with_reducible refine Bx.set ?_ rfl) | (with_reducible refine Bx.grown ?_ (by assumption) (by assumption))))), rfl, z5_ok, by simp, by (repeat' (first | (with_reducible exact Below.refl _ _) | (with_reducible assumption) | (with_reducible refine Below.alloc ?_ ?_ _) | (with_reducible refine Below.drew ?_) | (with_reducible refine below_drewN ?_ _) | (with_reducible refine Below.setCell ?_ ?_ _) | (with_reducible refine chain ?_ (by assumption) ?_) | omega | (simp; done) | (simp; omega)))⟩
  case round =>
    obtain ⟨j, s, z, hj, rfl, Xa, Xz, Xf, Xo, HS, HK, hsz, hB⟩ := hrel
    clear Xa1 Xz1
    have ca0 := Xa.out.c 0 rfl
    have ca1 := Xa.out.c 1 rfl
    have ca2 := Xa.out.c 2 rfl
    have la := Xa.out.lt
    have cz0 := Xz.out.c 0 rfl
    have cz1 := Xz.out.c 1 rfl
    have cz2 := Xz.out.c 2 rfl
    have cz3 := Xz.out.c 3 rfl
    have cz4 := Xz.out.c 4 rfl
    have lz := Xz.out.lt
    have fz := Xz.out.f
    have cf0 := Xf.out.c 0 rfl
    have lf := Xf.out.lt
    have ff := Xf.out.f
    have co0 := Xo.out.c 0 rfl
    have co1 := Xo.out.c 1 rfl
    have co2 := Xo.out.c 2 rfl
    have co3 := Xo.out.c 3 rfl
    have co4 := Xo.out.c 4 rfl
    have lo := Xo.out.lt
    have fo := Xo.out.f
    cases gk with
    | zero =>
      obtain rfl : j = C := by omega
      have hBq := hB.size
      cases z
      · go_wp2_with (fail)
        refine (out_t _ _ _ _ _ _ _ (by first | assumption | exact cf0)).mono ?_
        rintro ee w5 ⟨rfl, hb5⟩
        have hz5 := hb5.size
        have Yz := Xz.out.mono hb5
        have dz0 := Yz.c 0 rfl
        have dz1 := Yz.c 1 rfl
        have dz2 := Yz.c 2 rfl
        have dz3 := Yz.c 3 rfl
        have dz4 := Yz.c 4 rfl
        have dzf := Yz.f
        clear Yz
        go_wp2_with (fail)
        refine bodyPost_ret (v := dt s.a s.b s.c s.d s.e true) (by first | (simp [results, Try.results44, go_sem, *]; done) | (simp (disch := (first | omega | (simp; done) | (simp; omega))) [results, Try.results44, go_sem, *]; done) | (simp only [results, Try.results44]; go_simp; done)) rfl (TR.t HS.out ?_)
        (repeat' (first | (with_reducible exact Below.refl _ _) | (with_reducible assumption) | (with_reducible refine Below.alloc ?_ ?_ _) | (with_reducible refine Below.drew ?_) | (with_reducible refine below_drewN ?_ _) | (with_reducible refine Below.setCell ?_ ?_ _) | (with_reducible refine chain ?_ (by assumption) ?_) | omega | (simp; done) | (simp; omega)))
      · go_wp2_with (fail)
        refine (out_f _ _ _ _ _ _ _ (by first | assumption | exact cf0)).mono ?_
        rintro ee w5 ⟨rfl, hb5⟩
        have hz5 := hb5.size
        have Yz := Xz.out.mono hb5
        have dz0 := Yz.c 0 rfl
        have dz1 := Yz.c 1 rfl
        have dz2 := Yz.c 2 rfl
        have dz3 := Yz.c 3 rfl
        have dz4 := Yz.c 4 rfl
        have dzf := Yz.f
        clear Yz
        go_wp2_with (fail)
        refine bodyPost_ret (v := dt 0 0 0 0 0 false) (by first | (simp [results, Try.results44, go_sem, *]; done) | (simp (disch := (first | omega | (simp; done) | (simp; omega))) [results, Try.results44, go_sem, *]; done) | (simp only [results, Try.results44]; go_simp; done)) rfl (TR.f (by rw [HS.out]) ?_)
        (repeat' (first | (with_reducible exact Below.refl _ _) | (with_reducible assumption) | (with_reducible refine Below.alloc ?_ ?_ _) | (with_reducible refine Below.drew ?_) | (with_reducible refine below_drewN ?_ _) | (with_reducible refine Below.setCell ?_ ?_ _) | (with_reducible refine chain ?_ (by assumption) ?_) | omega | (simp; done) | (simp; omega)))
    | succ m =>
      have hlt : j < C := by omega
      have j1 : (j : Int) < (C : Int) := by omega
      obtain ⟨t, ht1, ht2, ht3, ht4⟩ := row_at HNN.out hlt
      obtain ⟨u, hu⟩ : ∃ u, u = t + j := ⟨_, rfl⟩
      have hq : u < n := by omega
      have hx := get_of (xs := xs) (q := u) (by rw [HN.out]; exact hq)
      obtain ⟨x, hxe⟩ : ∃ x, x = xs.getD u z5 := ⟨_, rfl⟩
      rw [← hxe] at hx
      have HX : Hid (xs.getD (j * C + j) z5 = x) := by show _ = x; rw [hxe, hu, ht4]
      have HKx := hid (all_get (okM_iff.1 HO.out).2.2.2 hx)
      obtain ⟨g, o, rfl, hC⟩ := HA.out _ x hx
      obtain ⟨q0, q1, q2, q3, q4⟩ := hC.at_ (hB.block g hC.lt)
      have hgw := hC.lt
      have e2 : IntKind.i64.wrap (t : Int) = (t : Int) := IntWalk.i64_in _ (by omega)
      have e3 : IntKind.i64.wrap ((t : Int) + (j : Int)) = (u : Int) := by rw [hu, Int.natCast_add]; exact IntWalk.i64_in _ (by omega)
      have e4 : (u : Int) < (n : Int) := by omega
      have hBq := hB.size
      clear hC hx hxe hu ht2 ht4
      go_wp2_with (fail)
      have yco0 : wr.drew.cell? ⟨w1.heap.size + 1, 0, none⟩ = some (.int .i64 s.a) := co0
      have yco1 : wr.drew.cell? ⟨w1.heap.size + 1, 1, none⟩ = some (.int .i64 s.b) := co1
      have yco2 : wr.drew.cell? ⟨w1.heap.size + 1, 2, none⟩ = some (.int .i64 s.c) := co2
      have yco3 : wr.drew.cell? ⟨w1.heap.size + 1, 3, none⟩ = some (.int .i64 s.d) := co3
      have yco4 : wr.drew.cell? ⟨w1.heap.size + 1, 4, none⟩ = some (.int .i64 s.e) := co4
      have yca1 : wr.drew.cell? ⟨w.heap.size, 1, none⟩ = some (.int .i64 (C : Int)) := ca1
      have yca2 : wr.drew.cell? ⟨w.heap.size, 2, none⟩ = some (.slice (some ⟨g, o, none⟩) n cp) := ca2
      have yq0 : wr.drew.cell? ⟨g, o + u * 5, none⟩ = some (.int .i64 x.a) := q0
      have yq1 : wr.drew.cell? ⟨g, o + u * 5 + 1, none⟩ = some (.int .i64 x.b) := q1
      have yq2 : wr.drew.cell? ⟨g, o + u * 5 + 2, none⟩ = some (.int .i64 x.c) := q2
      have yq3 : wr.drew.cell? ⟨g, o + u * 5 + 3, none⟩ = some (.int .i64 x.d) := q3
      have yq4 : wr.drew.cell? ⟨g, o + u * 5 + 4, none⟩ = some (.int .i64 x.e) := q4
      refine wp_region_x (fun w' => w'.cell? ⟨w1.heap.size + 1, 0, none⟩ = some (.int .i64 s.a) ∧ w'.cell? ⟨w1.heap.size + 1, 1, none⟩ = some (.int .i64 s.b) ∧ w'.cell? ⟨w1.heap.size + 1, 2, none⟩ = some (.int .i64 s.c) ∧ w'.cell? ⟨w1.heap.size + 1, 3, none⟩ = some (.int .i64 s.d) ∧ w'.cell? ⟨w1.heap.size + 1, 4, none⟩ = some (.int .i64 s.e) ∧ w'.cell? ⟨w.heap.size, 1, none⟩ = some (.int .i64 (C : Int)) ∧ w'.cell? ⟨w.heap.size, 2, none⟩ = some (.slice (some ⟨g, o, none⟩) n cp) ∧ w'.cell? ⟨g, o + u * 5, none⟩ = some (.int .i64 x.a) ∧ w'.cell? ⟨g, o + u * 5 + 1, none⟩ = some (.int .i64 x.b) ∧ w'.cell? ⟨g, o + u * 5 + 2, none⟩ = some (.int .i64 x.c) ∧ w'.cell? ⟨g, o + u * 5 + 3, none⟩ = some (.int .i64 x.d) ∧ w'.cell? ⟨g, o + u * 5 + 4, none⟩ = some (.int .i64 x.e)) 13 (by kernel_rfl) ⟨yco0, yco1, yco2, yco3, yco4, yca1, yca2, yq0, yq1, yq2, yq3, yq4⟩ (fun hS0 => ?_)
      refine wpAnyX_take (i := 0) (oi := _) (v := ?_) rfl (by kernel_rfl) (by kernel_rfl) (by kernel_rfl) (by kernel_rfl) (fun _ _ _ h => h) (Or.inl ⟨by rfl, ?_⟩) hS0 ?_
      rotate_left 1
      · (intro w hSw; (try dsimp only at hSw); go_simp; (try with_reducible rfl))
      try simp only [Act.put, List.setIfInBounds_toArray, List.set_cons_zero, List.set_cons_succ]
      refine wpAnyX_take (i := 1) (oi := _) (v := ?_) rfl (by kernel_rfl) (by kernel_rfl) (by kernel_rfl) (by kernel_rfl) (fun _ _ _ h => h) (Or.inl ⟨by rfl, ?_⟩) hS0 ?_
      rotate_left 1
      · (intro w hSw; (try dsimp only at hSw); go_simp; (try with_reducible rfl))
      try simp only [Act.put, List.setIfInBounds_toArray, List.set_cons_zero, List.set_cons_succ]
      refine wpAnyX_take (i := 2) (oi := _) (v := ?_) rfl (by kernel_rfl) (by kernel_rfl) (by kernel_rfl) (by kernel_rfl) (fun _ _ _ h => h) (Or.inl ⟨by rfl, ?_⟩) hS0 ?_
      rotate_left 1
      · (intro w hSw; (try dsimp only at hSw); go_simp; (try with_reducible rfl))
      try simp only [Act.put, List.setIfInBounds_toArray, List.set_cons_zero, List.set_cons_succ]
      refine wpAnyX_take (i := 3) (oi := _) (v := ?_) rfl (by kernel_rfl) (by kernel_rfl) (by kernel_rfl) (by kernel_rfl) (fun _ _ _ h => h) (Or.inl ⟨by rfl, ?_⟩) hS0 ?_
      rotate_left 1
      · (intro w hSw; (try dsimp only at hSw); go_simp; (try with_reducible rfl))
      try simp only [Act.put, List.setIfInBounds_toArray, List.set_cons_zero, List.set_cons_succ]
      refine wpAnyX_take (i := 4) (oi := _) (v := ?_) rfl (by kernel_rfl) (by kernel_rfl) (by kernel_rfl) (by kernel_rfl) (fun _ _ _ h => h) (Or.inl ⟨by rfl, ?_⟩) hS0 ?_
      rotate_left 1
      · (intro w hSw; (try dsimp only at hSw); go_simp; (try with_reducible rfl))
      try simp only [Act.put, List.setIfInBounds_toArray, List.set_cons_zero, List.set_cons_succ]
      refine wpAnyX_take (i := 5) (oi := _) (v := ?_) rfl (by kernel_rfl) (by kernel_rfl) (by kernel_rfl) (by kernel_rfl) (fun _ _ _ h => h) (Or.inl ⟨by rfl, ?_⟩) hS0 ?_
      rotate_left 1
      · (intro w hSw; (try dsimp only at hSw); go_simp; (try with_reducible rfl))
      try simp only [Act.put, List.setIfInBounds_toArray, List.set_cons_zero, List.set_cons_succ]
      refine wpAnyX_take (i := 6) (oi := _) (v := ?_) rfl (by kernel_rfl) (by kernel_rfl) (by kernel_rfl) (by kernel_rfl) (fun _ _ _ h => h) (Or.inl ⟨by rfl, ?_⟩) hS0 ?_
      rotate_left 1
      · (intro w hSw; (try dsimp only at hSw); go_simp; (try with_reducible rfl))
      try simp only [Act.put, List.setIfInBounds_toArray, List.set_cons_zero, List.set_cons_succ]
      refine wpAnyX_take (i := 7) (oi := _) (v := ?_) rfl (by kernel_rfl) (by kernel_rfl) (by kernel_rfl) (by kernel_rfl) (fun _ _ _ h => h) (Or.inl ⟨by rfl, ?_⟩) hS0 ?_
      rotate_left 1
      · (intro w hSw; (try dsimp only at hSw); go_simp; (try with_reducible rfl))
      try simp only [Act.put, List.setIfInBounds_toArray, List.set_cons_zero, List.set_cons_succ]
      refine wpAnyX_take (i := 8) (oi := _) (v := ?_) rfl (by kernel_rfl) (by kernel_rfl) (by kernel_rfl) (by kernel_rfl) (fun _ _ _ h => h) (Or.inl ⟨by rfl, ?_⟩) hS0 ?_
      rotate_left 1
      · (intro w hSw; (try dsimp only at hSw); go_simp; (try with_reducible rfl))
      try simp only [Act.put, List.setIfInBounds_toArray, List.set_cons_zero, List.set_cons_succ]
      refine wpAnyX_take (i := 9) (oi := _) (v := ?_) rfl (by kernel_rfl) (by kernel_rfl) (by kernel_rfl) (by kernel_rfl) (fun _ _ _ h => h) (Or.inl ⟨by rfl, ?_⟩) hS0 ?_
      rotate_left 1
      · (intro w hSw; (try dsimp only at hSw); go_simp; (try with_reducible rfl))
      try simp only [Act.put, List.setIfInBounds_toArray, List.set_cons_zero, List.set_cons_succ]
      refine wpAnyX_take (i := 10) (oi := _) (v := ?_) rfl (by kernel_rfl) (by kernel_rfl) (by kernel_rfl) (by kernel_rfl) (fun _ _ _ h => h) (Or.inl ⟨by rfl, ?_⟩) hS0 ?_
      rotate_left 1
      · (intro w hSw; (try dsimp only at hSw); go_simp; (try with_reducible rfl))
      try simp only [Act.put, List.setIfInBounds_toArray, List.set_cons_zero, List.set_cons_succ]
      refine wpAnyX_take (i := 11) (oi := _) (v := ?_) rfl (by kernel_rfl) (by kernel_rfl) (by kernel_rfl) (by kernel_rfl) (fun _ _ _ h => h) (Or.inl ⟨by rfl, ?_⟩) hS0 ?_
      rotate_left 1
      · (intro w hSw; (try dsimp only at hSw); go_simp; (try with_reducible rfl))
      try simp only [Act.put, List.setIfInBounds_toArray, List.set_cons_zero, List.set_cons_succ]
      refine wpAnyX_one (i := 12) (o := _) rfl (by kernel_rfl) (fun K hK => ?_)
      go_simp
      refine (cadd (x := s) (y := x) (z := z) HK.out HKx.out (by exact cf0) (by exact ff 0)).mono ?_
      rintro ee w8 ⟨rfl, hb8⟩
      have hb9 := bad_drew hb8
      have hz8 := bad_size hb9
      refine hK.out _ _ (fun _ => ?_) (fun hS1 => ?_)
      · exact ⟨kbad hb8 (by omega) (hS0.1), kbad hb8 (by omega) (hS0.2.1), kbad hb8 (by omega) (hS0.2.2.1), kbad hb8 (by omega) (hS0.2.2.2.1), kbad hb8 (by omega) (hS0.2.2.2.2.1), kbad hb8 (by omega) (hS0.2.2.2.2.2.1), kbad hb8 (by omega) (hS0.2.2.2.2.2.2.1), kbad hb8 (by omega) (hS0.2.2.2.2.2.2.2.1), kbad hb8 (by omega) (hS0.2.2.2.2.2.2.2.2.1), kbad hb8 (by omega) (hS0.2.2.2.2.2.2.2.2.2.1), kbad hb8 (by omega) (hS0.2.2.2.2.2.2.2.2.2.2.1), kbad hb8 (by omega) (hS0.2.2.2.2.2.2.2.2.2.2.2)⟩
      clear hK K
      have hS1 := hS1 (by decide)
      try simp only [Act.put, List.setIfInBounds_toArray, List.set_cons_zero, List.set_cons_succ]
      refine wpAnyX_one (i := 13) (o := _) rfl (by kernel_rfl) (fun K hK => ?_)
      have Yo := Xo.out.badly hb9 (by omega)
      have yo0 := Yo.c 0 rfl
      have yo1 := Yo.c 1 rfl
      have yo2 := Yo.c 2 rfl
      have yo3 := Yo.c 3 rfl
      have yo4 := Yo.c 4 rfl
      have yof := Yo.f
      go_simp
      refine hK.out _ _ (fun h => absurd rfl h) (fun _ => ?_)
      clear hK K
      try simp only [Act.put, List.setIfInBounds_toArray, List.set_cons_zero, List.set_cons_succ]
      refine wpAnyX_done (by kernel_rfl) ?_ _
      go_wp2_with (fail)
      go_roundg m
      case measure => omega
      case rel =>
        have Ya := Xa.out.badly hb9 (by omega)
        have Yz := Xz.out.badly hb9 (by omega)
        have Yf := Xf.out.bad hb9
        refine ⟨j + 1, (addS z s x).1, (addS z s x).2, by omega, by go_num, Ya.far5 _ (by omega), Yz.far5 _ (by omega), Yf.far5 _ (by omega), Yo.set5 _, trF_next HS.out HX.out, addS_ok HK.out HKx.out, by (try simp only [World.size_setCell]); omega, ?_⟩
        exact set5_below (x := (addS z s x).1) (bad_below hB hb9 (by omega)) (by omega)

end Go.Proofs.Ytdgcanlbdneelaa
