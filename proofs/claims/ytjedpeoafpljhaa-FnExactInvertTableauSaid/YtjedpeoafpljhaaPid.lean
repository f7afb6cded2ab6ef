/- Identity tableaux. -/
import Derived.Test.YtjedpeoafpljhaaPap
import Derived.Test.YtjedpeoafpljhaaPt
import Derived.Test.YtjedpeoafpljhaaRgx
import Derived.Deep.DeepCutAuto
namespace Go.Proofs.Ytjedpeoafpljhaa.C4
open Go.RowKit
set_option linter.unusedVariables false
set_option linter.unusedSimpArgs false
attribute [local irreducible] World.setCell

/-- the generators -/
def genX (q : Nat) : PauliV := pv 0 (2 ^ q) 0
def genZ (q : Nat) : PauliV := pv 0 0 (2 ^ q)
/-- the first j of n -/
def upTo (g : Nat → PauliV) (n j : Nat) : List PauliV := tab n (fun q => if q < j then g q else PauliV.z)
theorem upTo_0 (g : Nat → PauliV) (n : Nat) : upTo g n 0 = List.replicate n PauliV.z := by
  unfold upTo tab
  rw [List.eq_replicate_iff]
  refine ⟨by simp, fun b hb => ?_⟩
  obtain ⟨q, -, h⟩ := List.mem_map.1 hb
  rw [if_neg (by omega)] at h
  exact h.symm
theorem upTo_n (g : Nat → PauliV) (n : Nat) : upTo g n n = tab n g := tab_congr (fun q hq => by rw [if_pos hq])
theorem upTo_at {g : Nat → PauliV} {n j : Nat} (h : j < n) : (upTo g n j)[j]? = some PauliV.z := by
  unfold upTo; rw [tab_get h, if_neg (Nat.lt_irrefl j)]
theorem upTo_set {g : Nat → PauliV} {n j : Nat} (h : j < n) : (upTo g n j).set j (g j) = upTo g n (j + 1) := by
  refine List.ext_getElem? (fun p => ?_)
  have hl : (upTo g n j).length = n := tab_len _ _
  by_cases hp : p < n
  · by_cases e : j = p
    · subst e
      rw [List.getElem?_set_self (by omega)]
      unfold upTo; rw [tab_get hp, if_pos (by omega)]
    · rw [List.getElem?_set_ne e]
      unfold upTo; rw [tab_get hp, tab_get hp]
      by_cases h1 : p < j
      · rw [if_pos h1, if_pos (by omega)]
      · rw [if_neg h1, if_neg (by omega)]
  · rw [List.getElem?_eq_none (by rw [List.length_set, hl]; omega), List.getElem?_eq_none (by unfold upTo; rw [tab_len]; omega)]
theorem Bk.drew {α : Type} {E : Enc α} {W : World} {g : Nat} {t : TypeId} {xs : List α} (h : Bk E W g t xs) : Bk E W.drew g t xs := h
set_option maxRecDepth 100000 in
set_option maxHeartbeats 8000000 in
theorem idt {n : Nat} (q1 : 1 ≤ n) (q5 : n ≤ 5) (w : World) :
    Calls Try.prog 87 #[.int .i64 (n : Int)] w fun ee w' => ∃ gx gz : Nat, ee = .returned (tableauV n (some ⟨gx, 0, none⟩) n n (some ⟨gz, 0, none⟩) n n) ∧ Bk pauliE w' gx 43 (tab n genX) ∧ Bk pauliE w' gz 43 (tab n genZ) ∧ w.heap.size ≤ gx ∧ w.heap.size ≤ gz ∧ gx ≠ gz ∧ Below w.heap.size w w' := by
  have hmk := mkPauli n (by omega)
  go_enter Try.func87, Try.ntmps87
  go_wp2_with (fail)
  go_cut [3] (fun s3 wx => ∃ go gx gz : Nat, s3 = .pointer (some ⟨go, 0, none⟩) ∧ Hid (Bb wx (go) 53 #[.int .i64 (n : Int), .slice (some ⟨gx, 0, none⟩) n n, .slice (some ⟨gz, 0, none⟩) n n]) ∧ Hid (Bk pauliE wx gx 43 (List.replicate n PauliV.z)) ∧ Hid (Bk pauliE wx gz 43 (List.replicate n PauliV.z)) ∧ w.heap.size + 1 ≤ go ∧ w.heap.size + 1 ≤ gx ∧ w.heap.size + 1 ≤ gz ∧ go ≠ gx ∧ go ≠ gz ∧ gx ≠ gz ∧ Hid (Bb wx (w.heap.size) 53 #[.int .i64 0, .slice none 0 0, .slice none 0 0]) ∧ Below w.heap.size w wx)
  case first =>
    go_region_with (fail)
    all_goals (go_wp2_with fail; go_meet)
    · refine ⟨w.heap.size + 1 + 1 + 1, w.heap.size + 1, w.heap.size + 1 + 1, rfl, ?_, ?_, ?_, by omega, by omega, by omega, by omega, by omega, by omega, ?_, ?_⟩
      · show Bb _ _ _ _; (repeat' (first | (with_reducible assumption) | (refine Bb.new (by first | (with_reducible rfl) | (simp; done))) | (with_reducible refine Bb.alloc ?_ _) | (with_reducible refine Bb.drew ?_) | (with_reducible refine Bb.drewN ?_ _) | (with_reducible refine Bb.mono ?_ (by assumption)) | (with_reducible refine Bb.far ?_ (by (try simp only [World.size_alloc, World.size_drew]); omega)) | (with_reducible refine Bb.set ?_ rfl) | (with_reducible refine Bb.grown ?_ (by assumption) (by assumption))))
      · show Bk _ _ _ _ _; refine Bk.drew ?_; (repeat (first | (refine Bk.made ?_; (simp; done)) | refine Bk.alloc ?_ _))
      · show Bk _ _ _ _ _; refine Bk.drew ?_; (repeat (first | (refine Bk.made ?_; (simp; done)) | refine Bk.alloc ?_ _))
      · show Bb _ _ _ _; (repeat' (first | (with_reducible assumption) | (refine Bb.new (by first | (with_reducible rfl) | (simp; done))) | (with_reducible refine Bb.alloc ?_ _) | (with_reducible refine Bb.drew ?_) | (with_reducible refine Bb.drewN ?_ _) | (with_reducible refine Bb.mono ?_ (by assumption)) | (with_reducible refine Bb.far ?_ (by (try simp only [World.size_alloc, World.size_drew]); omega)) | (with_reducible refine Bb.set ?_ rfl) | (with_reducible refine Bb.grown ?_ (by assumption) (by assumption))))
      · (repeat' (first | (with_reducible exact Below.refl _ _) | (with_reducible assumption) | (with_reducible refine Below.alloc ?_ ?_ _) | (with_reducible refine Below.drew ?_) | (with_reducible refine bdN ?_ _) | (with_reducible refine Below.setCell ?_ ?_ _) | (with_reducible refine chn ?_ (by assumption) ?_) | omega | (simp; done) | (simp; omega)))
    · refine ⟨w.heap.size + 1 + 1, w.heap.size + 1, w.heap.size + 1 + 1 + 1, rfl, ?_, ?_, ?_, by omega, by omega, by omega, by omega, by omega, by omega, ?_, ?_⟩
      · show Bb _ _ _ _; (repeat' (first | (with_reducible assumption) | (refine Bb.new (by first | (with_reducible rfl) | (simp; done))) | (with_reducible refine Bb.alloc ?_ _) | (with_reducible refine Bb.drew ?_) | (with_reducible refine Bb.drewN ?_ _) | (with_reducible refine Bb.mono ?_ (by assumption)) | (with_reducible refine Bb.far ?_ (by (try simp only [World.size_alloc, World.size_drew]); omega)) | (with_reducible refine Bb.set ?_ rfl) | (with_reducible refine Bb.grown ?_ (by assumption) (by assumption))))
      · show Bk _ _ _ _ _; refine Bk.drew ?_; (repeat (first | (refine Bk.made ?_; (simp; done)) | refine Bk.alloc ?_ _))
      · show Bk _ _ _ _ _; refine Bk.drew ?_; (repeat (first | (refine Bk.made ?_; (simp; done)) | refine Bk.alloc ?_ _))
      · show Bb _ _ _ _; (repeat' (first | (with_reducible assumption) | (refine Bb.new (by first | (with_reducible rfl) | (simp; done))) | (with_reducible refine Bb.alloc ?_ _) | (with_reducible refine Bb.drew ?_) | (with_reducible refine Bb.drewN ?_ _) | (with_reducible refine Bb.mono ?_ (by assumption)) | (with_reducible refine Bb.far ?_ (by (try simp only [World.size_alloc, World.size_drew]); omega)) | (with_reducible refine Bb.set ?_ rfl) | (with_reducible refine Bb.grown ?_ (by assumption) (by assumption))))
      · (repeat' (first | (with_reducible exact Below.refl _ _) | (with_reducible assumption) | (with_reducible refine Below.alloc ?_ ?_ _) | (with_reducible refine Below.drew ?_) | (with_reducible refine bdN ?_ _) | (with_reducible refine Below.setCell ?_ ?_ _) | (with_reducible refine chn ?_ (by assumption) ?_) | omega | (simp; done) | (simp; omega)))
    · refine ⟨w.heap.size + 1 + 1 + 1, w.heap.size + 1 + 1, w.heap.size + 1, rfl, ?_, ?_, ?_, by omega, by omega, by omega, by omega, by omega, by omega, ?_, ?_⟩
      · show Bb _ _ _ _; (repeat' (first | (with_reducible assumption) | (refine Bb.new (by first | (with_reducible rfl) | (simp; done))) | (with_reducible refine Bb.alloc ?_ _) | (with_reducible refine Bb.drew ?_) | (with_reducible refine Bb.drewN ?_ _) | (with_reducible refine Bb.mono ?_ (by assumption)) | (with_reducible refine Bb.far ?_ (by (try simp only [World.size_alloc, World.size_drew]); omega)) | (with_reducible refine Bb.set ?_ rfl) | (with_reducible refine Bb.grown ?_ (by assumption) (by assumption))))
      · show Bk _ _ _ _ _; refine Bk.drew ?_; (repeat (first | (refine Bk.made ?_; (simp; done)) | refine Bk.alloc ?_ _))
      · show Bk _ _ _ _ _; refine Bk.drew ?_; (repeat (first | (refine Bk.made ?_; (simp; done)) | refine Bk.alloc ?_ _))
      · show Bb _ _ _ _; (repeat' (first | (with_reducible assumption) | (refine Bb.new (by first | (with_reducible rfl) | (simp; done))) | (with_reducible refine Bb.alloc ?_ _) | (with_reducible refine Bb.drew ?_) | (with_reducible refine Bb.drewN ?_ _) | (with_reducible refine Bb.mono ?_ (by assumption)) | (with_reducible refine Bb.far ?_ (by (try simp only [World.size_alloc, World.size_drew]); omega)) | (with_reducible refine Bb.set ?_ rfl) | (with_reducible refine Bb.grown ?_ (by assumption) (by assumption))))
      · (repeat' (first | (with_reducible exact Below.refl _ _) | (with_reducible assumption) | (with_reducible refine Below.alloc ?_ ?_ _) | (with_reducible refine Below.drew ?_) | (with_reducible refine bdN ?_ _) | (with_reducible refine Below.setCell ?_ ?_ _) | (with_reducible refine chn ?_ (by assumption) ?_) | omega | (simp; done) | (simp; omega)))
    · refine ⟨w.heap.size + 1 + 1, w.heap.size + 1 + 1 + 1, w.heap.size + 1, rfl, ?_, ?_, ?_, by omega, by omega, by omega, by omega, by omega, by omega, ?_, ?_⟩
      · show Bb _ _ _ _; (repeat' (first | (with_reducible assumption) | (refine Bb.new (by first | (with_reducible rfl) | (simp; done))) | (with_reducible refine Bb.alloc ?_ _) | (with_reducible refine Bb.drew ?_) | (with_reducible refine Bb.drewN ?_ _) | (with_reducible refine Bb.mono ?_ (by assumption)) | (with_reducible refine Bb.far ?_ (by (try simp only [World.size_alloc, World.size_drew]); omega)) | (with_reducible refine Bb.set ?_ rfl) | (with_reducible refine Bb.grown ?_ (by assumption) (by assumption))))
      · show Bk _ _ _ _ _; refine Bk.drew ?_; (repeat (first | (refine Bk.made ?_; (simp; done)) | refine Bk.alloc ?_ _))
      · show Bk _ _ _ _ _; refine Bk.drew ?_; (repeat (first | (refine Bk.made ?_; (simp; done)) | refine Bk.alloc ?_ _))
      · show Bb _ _ _ _; (repeat' (first | (with_reducible assumption) | (refine Bb.new (by first | (with_reducible rfl) | (simp; done))) | (with_reducible refine Bb.alloc ?_ _) | (with_reducible refine Bb.drew ?_) | (with_reducible refine Bb.drewN ?_ _) | (with_reducible refine Bb.mono ?_ (by assumption)) | (with_reducible refine Bb.far ?_ (by (try simp only [World.size_alloc, World.size_drew]); omega)) | (with_reducible refine Bb.set ?_ rfl) | (with_reducible refine Bb.grown ?_ (by assumption) (by assumption))))
      · (repeat' (first | (with_reducible exact Below.refl _ _) | (with_reducible assumption) | (with_reducible refine Below.alloc ?_ ?_ _) | (with_reducible refine Below.drew ?_) | (with_reducible refine bdN ?_ _) | (with_reducible refine Below.setCell ?_ ?_ _) | (with_reducible refine chn ?_ (by assumption) ?_) | omega | (simp; done) | (simp; omega)))
    · refine ⟨w.heap.size + 1, w.heap.size + 1 + 1, w.heap.size + 1 + 1 + 1, rfl, ?_, ?_, ?_, by omega, by omega, by omega, by omega, by omega, by omega, ?_, ?_⟩
      · show Bb _ _ _ _; (repeat' (first | (with_reducible assumption) | (refine Bb.new (by first | (with_reducible rfl) | (simp; done))) | (with_reducible refine Bb.alloc ?_ _) | (with_reducible refine Bb.drew ?_) | (with_reducible refine Bb.drewN ?_ _) | (with_reducible refine Bb.mono ?_ (by assumption)) | (with_reducible refine Bb.far ?_ (by (try simp only [World.size_alloc, World.size_drew]); omega)) | (with_reducible refine Bb.set ?_ rfl) | (with_reducible refine Bb.grown ?_ (by assumption) (by assumption))))
      · show Bk _ _ _ _ _; refine Bk.drew ?_; (repeat (first | (refine Bk.made ?_; (simp; done)) | refine Bk.alloc ?_ _))
      · show Bk _ _ _ _ _; refine Bk.drew ?_; (repeat (first | (refine Bk.made ?_; (simp; done)) | refine Bk.alloc ?_ _))
      · show Bb _ _ _ _; (repeat' (first | (with_reducible assumption) | (refine Bb.new (by first | (with_reducible rfl) | (simp; done))) | (with_reducible refine Bb.alloc ?_ _) | (with_reducible refine Bb.drew ?_) | (with_reducible refine Bb.drewN ?_ _) | (with_reducible refine Bb.mono ?_ (by assumption)) | (with_reducible refine Bb.far ?_ (by (try simp only [World.size_alloc, World.size_drew]); omega)) | (with_reducible refine Bb.set ?_ rfl) | (with_reducible refine Bb.grown ?_ (by assumption) (by assumption))))
      · (repeat' (first | (with_reducible exact Below.refl _ _) | (with_reducible assumption) | (with_reducible refine Below.alloc ?_ ?_ _) | (with_reducible refine Below.drew ?_) | (with_reducible refine bdN ?_ _) | (with_reducible refine Below.setCell ?_ ?_ _) | (with_reducible refine chn ?_ (by assumption) ?_) | omega | (simp; done) | (simp; omega)))
    · refine ⟨w.heap.size + 1, w.heap.size + 1 + 1 + 1, w.heap.size + 1 + 1, rfl, ?_, ?_, ?_, by omega, by omega, by omega, by omega, by omega, by omega, ?_, ?_⟩
      · show Bb _ _ _ _; (repeat' (first | (with_reducible assumption) | (refine Bb.new (by first | (with_reducible rfl) | (simp; done))) | (with_reducible refine Bb.alloc ?_ _) | (with_reducible refine Bb.drew ?_) | (with_reducible refine Bb.drewN ?_ _) | (with_reducible refine Bb.mono ?_ (by assumption)) | (with_reducible refine Bb.far ?_ (by (try simp only [World.size_alloc, World.size_drew]); omega)) | (with_reducible refine Bb.set ?_ rfl) | (with_reducible refine Bb.grown ?_ (by assumption) (by assumption))))
      · show Bk _ _ _ _ _; refine Bk.drew ?_; (repeat (first | (refine Bk.made ?_; (simp; done)) | refine Bk.alloc ?_ _))
      · show Bk _ _ _ _ _; refine Bk.drew ?_; (repeat (first | (refine Bk.made ?_; (simp; done)) | refine Bk.alloc ?_ _))
      · show Bb _ _ _ _; (repeat' (first | (with_reducible assumption) | (refine Bb.new (by first | (with_reducible rfl) | (simp; done))) | (with_reducible refine Bb.alloc ?_ _) | (with_reducible refine Bb.drew ?_) | (with_reducible refine Bb.drewN ?_ _) | (with_reducible refine Bb.mono ?_ (by assumption)) | (with_reducible refine Bb.far ?_ (by (try simp only [World.size_alloc, World.size_drew]); omega)) | (with_reducible refine Bb.set ?_ rfl) | (with_reducible refine Bb.grown ?_ (by assumption) (by assumption))))
      · (repeat' (first | (with_reducible exact Below.refl _ _) | (with_reducible assumption) | (with_reducible refine Below.alloc ?_ ?_ _) | (with_reducible refine Below.drew ?_) | (with_reducible refine bdN ?_ _) | (with_reducible refine Below.setCell ?_ ?_ _) | (with_reducible refine chn ?_ (by assumption) ?_) | omega | (simp; done) | (simp; omega)))
  case rest =>
    obtain ⟨w1, rfl⟩ : ∃ w1, w1 = wc := ⟨_, rfl⟩
    obtain ⟨go, gx, gz, rfl, XO, HX, HZ, l1, l2, l3, e1, e2, e3, XR, hB⟩ := hcut
    have co0 := XO.out.c 0 rfl
    have co1 := XO.out.c 1 rfl
    have co2 := XO.out.c 2 rfl
    have lo := XO.out.lt
    have hB1 := hB.size
    go_wp2_with (fail)
    go_loopg [12] n (fun k s1 wr => ∃ j : Nat, j + k = n ∧ s1 = .int .i64 (j : Int) ∧ Hid (Bb wr (go) 53 #[.int .i64 (n : Int), .slice (some ⟨gx, 0, none⟩) n n, .slice (some ⟨gz, 0, none⟩) n n]) ∧ Hid (Bk pauliE wr gx 43 (upTo genX n j)) ∧ Hid (Bk pauliE wr gz 43 (upTo genZ n j)) ∧ Hid (Bb wr (w.heap.size) 53 #[.int .i64 0, .slice none 0 0, .slice none 0 0]) ∧ Below w.heap.size w wr)
    case atStart => exact ⟨0, by omega, rfl, XO, by rw [upTo_0]; exact HX, by rw [upTo_0]; exact HZ, XR, hB⟩
    case round =>
      obtain ⟨j, hj, rfl, XOr, HXr, HZr, XRr, hBr⟩ := hrel
      clear co0 co1 co2 lo
      have co0 := XOr.out.c 0 rfl
      have co1 := XOr.out.c 1 rfl
      have co2 := XOr.out.c 2 rfl
      have lo := XOr.out.lt
      have cr0 := XRr.out.c 0 rfl
      have cr1 := XRr.out.c 1 rfl
      have cr2 := XRr.out.c 2 rfl
      have fr := XRr.out.f
      have hBs := hBr.size
      cases gk with
      | zero =>
        obtain rfl : n = j := by omega
        go_wp2_with (fail)
        refine bodyPost_ret (v := tableauV n (some ⟨gx, 0, none⟩) n n (some ⟨gz, 0, none⟩) n n) (by first | (simp [results, Try.results87, go_sem, *]; done) | (simp (disch := (first | omega | (simp; done) | (simp; omega))) [results, Try.results87, go_sem, *]; done) | (simp only [results, Try.results87]; go_simp; done)) rfl ⟨gx, gz, rfl, ?_, ?_, by omega, by omega, e3, ?_⟩
        · rw [← upTo_n]; (repeat (first | exact HXr.out | refine Bk.far ?_ (by show gx ≠ w.heap.size; omega) _))
        · rw [← upTo_n]; (repeat (first | exact HZr.out | refine Bk.far ?_ (by show gz ≠ w.heap.size; omega) _))
        · (repeat' (first | (with_reducible exact Below.refl _ _) | (with_reducible assumption) | (with_reducible refine Below.alloc ?_ ?_ _) | (with_reducible refine Below.drew ?_) | (with_reducible refine bdN ?_ _) | (with_reducible refine Below.setCell ?_ ?_ _) | (with_reducible refine chn ?_ (by assumption) ?_) | omega | (simp; done) | (simp; omega)))
      | succ m =>
        have hlt : j < n := by omega
        have jl : (j : Int) < (n : Int) := by omega
        have j5 : j ≤ 5 := by omega
        have e1g : go ≠ gx := by assumption
        have e1 := pw_w j5
        have e2 := pw_k j5
        have a1 : IntKind.i64.wrap ((j : Int)) = (j : Int) := IntWalk.i64_in _ (by omega)
        go_wp2_with (fail)
        have fx := HXr.out.fr
        obtain ⟨p0, p1, p2⟩ := Bk.atPauli (k := j) (x := PauliV.z) HXr.out (upTo_at hlt)
        go_region
        obtain ⟨w2, hw2⟩ : ∃ W, W = wr.setCell ⟨gx, j * 3 + 1, none⟩ (.int .i64 ((pw j : Nat) : Int)) := ⟨_, rfl⟩
        have HX2 : Bk pauliE w2 gx 43 (upTo genX n (j + 1)) := by
          rw [hw2, ← upTo_set hlt]
          exact Bk.set1 (E := pauliE) (i := 1) (x := PauliV.z) HXr.out (upTo_at hlt) (by decide) rfl rfl
        have HZ2 : Bk pauliE w2 gz 43 (upTo genZ n j) := by rw [hw2]; exact HZr.out.far (by show gz ≠ gx; omega) _
        have XO2 : Bb w2 (go) 53 #[.int .i64 (n : Int), .slice (some ⟨gx, 0, none⟩) n n, .slice (some ⟨gz, 0, none⟩) n n] := by rw [hw2]; exact XOr.out.far (by omega)
        have XR2 : Bb w2 (w.heap.size) 53 #[.int .i64 0, .slice none 0 0, .slice none 0 0] := by rw [hw2]; exact XRr.out.far (by omega)
        have hB2 : Below w.heap.size w w2 := by rw [hw2]; exact Below.setCell hBr (by show w.heap.size ≤ gx; omega) _
        rw [← hw2]
        clear hw2 co0 co1 co2 lo cr0 cr1 cr2 fr fx p0 p1 p2
        have co0 := XO2.c 0 rfl
        have co1 := XO2.c 1 rfl
        have co2 := XO2.c 2 rfl
        have lo := XO2.lt
        have H2X := lay HX2
        have H2Z := lay HZ2
        have X2O := lay XO2
        have X2R := lay XR2
        clear HX2 HZ2 XO2 XR2 HXr HZr XOr XRr hBr hBs
        have hBs := hB2.size
        have fz := H2Z.out.fr
        obtain ⟨p0, p1, p2⟩ := Bk.atPauli (k := j) (x := PauliV.z) H2Z.out (upTo_at hlt)
        go_wp2_with (fail)
        go_region
        go_wp2_with (fail)
        go_roundg m
        case measure => omega
        case rel =>
          refine ⟨j + 1, by omega, by go_num, X2O.out.far (by omega), H2X.out.far (by show gx ≠ gz; omega) _, ?_, X2R.out.far (by omega), Below.drew (Below.drew (Below.setCell hB2 (by show w.heap.size ≤ gz; omega) _))⟩
          show Bk pauliE _ gz 43 (upTo genZ n (j + 1))
          rw [← upTo_set hlt]
          exact Bk.set1 (E := pauliE) (i := 2) (x := PauliV.z) H2Z.out (upTo_at hlt) (by decide) rfl rfl

end Go.Proofs.Ytjedpeoafpljhaa.C4
