/- MuI -/
import Derived.Test.YtnjckeadcbfogaaZq32
namespace Go.Proofs.Ytnjckeadcbfogaa
open Go.RowKit RM
set_option linter.unusedVariables false
set_option linter.unusedSimpArgs false
attribute [local irreducible] World.setCell

set_option maxRecDepth 100000 in
set_option maxHeartbeats 4000000 in
theorem mu_i_t {ra ca cb : Nat} {g0 h0 n m cp cp' : Nat} {xs ys : List D5} {w : World} (hA : Rd w (some ⟨g0, 0, none⟩) xs) (hB : Rd w (some ⟨h0, 0, none⟩) ys) (hn : xs.length = n) (hm : ys.length = m) (hok : okM (ra : Int) (ca : Int) n xs = true) (hok2 : okM (ca : Int) (cb : Int) m ys = true) {N : Nat} (hN9 : N = ra * cb) (hc1 : n ≤ cp) (hc2 : cp ≤ 1048576) (hc3 : m ≤ cp') (hc4 : cp' ≤ 1048576) :
    Calls Try.prog 24 #[mv (ra : Int) (ca : Int) (some ⟨g0, 0, none⟩) n cp, mv (ca : Int) (cb : Int) (some ⟨h0, 0, none⟩) m cp'] w fun ee w' => IR w w' ee (ra : Int) (cb : Int) N (tab N (mmF ca cb xs ys)) (anyB N (mmG ca cb xs ys)) := by
  obtain ⟨hnn, a1, a2, a3, a4, a5⟩ := okM_nat2 hok
  obtain ⟨hmm, -, -, b3, b4, b5⟩ := okM_nat2 hok2
  have n32 : N ≤ 1024 := by rw [hN9]; exact Nat.mul_le_mul a2 b4
  have EN := hid hN9
  clear hN9
  have K1 := hid hc1
  have K2 := hid hc2
  have K3 := hid hc3
  have K4 := hid hc4
  clear hc1 hc2 hc3 hc4
  have HA := hid hA
  have HB := hid hB
  have HN := hid hn
  have HM := hid hm
  have HO := hid hok
  have HP := hid hok2
  have HNN := hid hnn
  have HMM := hid hmm
  clear hA hB hn hm hok hok2 hnn hmm
  have h0A : g0 < w.heap.size := by
    obtain ⟨x, hx⟩ : ∃ x, xs[0]? = some x := ⟨_, List.getElem?_eq_getElem (by rw [HN.out, HNN.out]; exact Nat.mul_pos (by omega) (by omega))⟩
    exact (HA.out.cx hx).lt
  have h0B : h0 < w.heap.size := by
    obtain ⟨x, hx⟩ : ∃ x, ys[0]? = some x := ⟨_, List.getElem?_eq_getElem (by rw [HM.out, HMM.out]; exact Nat.mul_pos (by omega) (by omega))⟩
    exact (HB.out.cx hx).lt
  go_enter Try.func24, Try.ntmps24
  go_wp2_with (fail)
  refine (vm_i_t (xs := xs) HO.out ?_ HN.out).mono ?_
  · exact HA.out.mono (by (repeat' (first | (with_reducible exact Below.refl _ _) | (with_reducible assumption) | (with_reducible refine Below.alloc ?_ ?_ _) | (with_reducible refine Below.drew ?_) | (with_reducible refine below_drewN ?_ _) | (with_reducible refine Below.setCell ?_ ?_ _) | (with_reducible refine chain ?_ (by assumption) ?_) | omega | (simp; done) | (simp; omega))))
  rintro ee w1 ⟨rfl, hb1⟩
  obtain ⟨hc1, hf1, _⟩ := bcell hb1; have hz1 := hb1.size; (try simp at hz1); (try have hx10 : w.heap.size < w1.heap.size := (by omega)); (try have hx11 : w.heap.size + 1 < w1.heap.size := (by omega)); (try have hx12 : w.heap.size + 1 + 1 < w1.heap.size := (by omega)); (try have hx13 : w.heap.size + 1 + 1 + 1 < w1.heap.size := (by omega))
  have Xa1 : Hid (Bx w1 (w.heap.size) 28 #[.int .i64 (ra : Int), .int .i64 (ca : Int), .slice (some ⟨g0, 0, none⟩) n cp]) := by show Bx _ _ _ _; (repeat' (first | (with_reducible assumption) | (refine Bx.new (by first | (with_reducible rfl) | (simp; done))) | (with_reducible refine Bx.alloc ?_ _) | (with_reducible refine Bx.drew ?_) | (with_reducible refine Bx.drewN ?_ _) | (with_reducible refine Bx.mono ?_ (by assumption)) | (with_reducible refine Bx.badly ?_ (by assumption) (by omega)) | (with_reducible refine Bx.far ?_ (by (try simp only [World.size_alloc, World.size_drew]); omega)) | (with_reducible refine Bx.set ?_ rfl) | (with_reducible refine Bx.grown ?_ (by assumption) (by assumption))))
  have Xb1 : Hid (Bx w1 (w.heap.size + 1) 28 #[.int .i64 (ca : Int), .int .i64 (cb : Int), .slice (some ⟨h0, 0, none⟩) m cp']) := by show Bx _ _ _ _; (repeat' (first | (with_reducible assumption) | (refine Bx.new (by first | (with_reducible rfl) | (simp; done))) | (with_reducible refine Bx.alloc ?_ _) | (with_reducible refine Bx.drew ?_) | (with_reducible refine Bx.drewN ?_ _) | (with_reducible refine Bx.mono ?_ (by assumption)) | (with_reducible refine Bx.badly ?_ (by assumption) (by omega)) | (with_reducible refine Bx.far ?_ (by (try simp only [World.size_alloc, World.size_drew]); omega)) | (with_reducible refine Bx.set ?_ rfl) | (with_reducible refine Bx.grown ?_ (by assumption) (by assumption))))
  have Xz1 : Hid (Bx w1 (w.heap.size + 1 + 1) 28 #[.int .i64 0, .int .i64 0, .slice none 0 0]) := by show Bx _ _ _ _; (repeat' (first | (with_reducible assumption) | (refine Bx.new (by first | (with_reducible rfl) | (simp; done))) | (with_reducible refine Bx.alloc ?_ _) | (with_reducible refine Bx.drew ?_) | (with_reducible refine Bx.drewN ?_ _) | (with_reducible refine Bx.mono ?_ (by assumption)) | (with_reducible refine Bx.badly ?_ (by assumption) (by omega)) | (with_reducible refine Bx.far ?_ (by (try simp only [World.size_alloc, World.size_drew]); omega)) | (with_reducible refine Bx.set ?_ rfl) | (with_reducible refine Bx.grown ?_ (by assumption) (by assumption))))
  have hw1 : Below w.heap.size w w1 := by (repeat' (first | (with_reducible exact Below.refl _ _) | (with_reducible assumption) | (with_reducible refine Below.alloc ?_ ?_ _) | (with_reducible refine Below.drew ?_) | (with_reducible refine below_drewN ?_ _) | (with_reducible refine Below.setCell ?_ ?_ _) | (with_reducible refine chain ?_ (by assumption) ?_) | omega | (simp; done) | (simp; omega)))
  go_wp2_with (fail)
  refine (vm_i_t (xs := ys) HP.out ?_ HM.out).mono ?_
  · exact HB.out.mono (by (repeat' (first | (with_reducible exact Below.refl _ _) | (with_reducible assumption) | (with_reducible refine Below.alloc ?_ ?_ _) | (with_reducible refine Below.drew ?_) | (with_reducible refine below_drewN ?_ _) | (with_reducible refine Below.setCell ?_ ?_ _) | (with_reducible refine chain ?_ (by assumption) ?_) | omega | (simp; done) | (simp; omega))))
  rintro ee w2 ⟨rfl, hb2⟩
  have hz2 := hb2.size
  have hw2 : Below w.heap.size w w2 := chain hw1 hb2 hw1.size
  have Ya2 := hid (Xa1.out.mono hb2)
  have ca0 := Ya2.out.c 0 rfl
  have ca1 := Ya2.out.c 1 rfl
  have ca2 := Ya2.out.c 2 rfl
  have fa := Ya2.out.f
  have la := Ya2.out.lt
  have Yb2 := hid (Xb1.out.mono hb2)
  have cb0 := Yb2.out.c 0 rfl
  have cb1 := Yb2.out.c 1 rfl
  have cb2 := Yb2.out.c 2 rfl
  have fb := Yb2.out.f
  have lb := Yb2.out.lt
  have Yz2 := hid (Xz1.out.mono hb2)
  have cz0 := Yz2.out.c 0 rfl
  have cz1 := Yz2.out.c 1 rfl
  have cz2 := Yz2.out.c 2 rfl
  have fz := Yz2.out.f
  have lz := Yz2.out.lt
  clear Xa1 Xb1 Xz1
  have hBq := hw2.size
  go_wp2_with (fail)
  refine (pr_i (xs := xs) (ys := ys) (N := N) ?_ ?_ HN.out HM.out (okM_iff.1 HO.out).2.2.2 (okM_iff.1 HP.out).2.2.2 HNN.out HMM.out a1 a2 a3 a4 b3 b4 EN.out K1.out K2.out K3.out K4.out).mono ?_
  · exact HA.out.mono hw2
  · exact HB.out.mono hw2
  rintro ee w3 ⟨m1, m2, hb3⟩
  have hz3 := hb3.size
  have hB3 : Below w.heap.size w w3 := chain hw2 hb3 hw2.size
  have Xz := hid (Yz2.out.mono hb3)
  have M1 := hid m1
  have M2 := hid m2
  clear hb3 m1 m2 Ya2 Yb2 Yz2 ca0 ca1 ca2 cb0 cb1 cb2 cz0 cz1 cz2 fa la fb lb fz lz
  have cz0 := Xz.out.c 0 rfl
  have cz1 := Xz.out.c 1 rfl
  have cz2 := Xz.out.c 2 rfl
  have fz := Xz.out.f
  have lz := Xz.out.lt
  cases hany : anyB N (mmG ca cb xs ys)
  · obtain ⟨g, rfl, hK, hg⟩ := M2.out hany
    have HK := hid hK
    have hgl := hK.lt
    clear hK M1 M2
    go_wp2_with (fail)
    refine bodyPost_ret (v := mt (ra : Int) (cb : Int) (some ⟨g, 0, none⟩) N N true) (by simp only [results, Try.results24]; go_simp; done) rfl ⟨fun h => (by rw [hany] at h; cases h), fun _ => ⟨g, rfl, ?_, ?_⟩, ?_⟩
    · show Bk _ _ _ _
      (repeat' (first | exact HK.out | refine Bk.far ?_ (by show g ≠ w.heap.size + 1 + 1; omega) _))
    · omega
    · (repeat' (first | (with_reducible exact Below.refl _ _) | (with_reducible assumption) | (with_reducible refine Below.alloc ?_ ?_ _) | (with_reducible refine Below.drew ?_) | (with_reducible refine below_drewN ?_ _) | (with_reducible refine Below.setCell ?_ ?_ _) | (with_reducible refine chain ?_ (by assumption) ?_) | omega | (simp; done) | (simp; omega)))
  · obtain rfl := M1.out hany
    clear M1 M2
    go_wp2_with (fail)
    refine bodyPost_ret (v := mt 0 0 none 0 0 false) (by simp only [results, Try.results24]; go_simp; done) rfl ⟨fun _ => rfl, fun h => (by rw [hany] at h; cases h), ?_⟩
    (repeat' (first | (with_reducible exact Below.refl _ _) | (with_reducible assumption) | (with_reducible refine Below.alloc ?_ ?_ _) | (with_reducible refine Below.drew ?_) | (with_reducible refine below_drewN ?_ _) | (with_reducible refine Below.setCell ?_ ?_ _) | (with_reducible refine chain ?_ (by assumption) ?_) | omega | (simp; done) | (simp; omega)))

end Go.Proofs.Ytnjckeadcbfogaa
