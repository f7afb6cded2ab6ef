/- One gate on other qubits. -/
import Derived.Test.YtdbnjoeanoiifaaGv
import Derived.Test.YtdbnjoeanoiifaaGp
import Derived.Test.YtdbnjoeanoiifaaRgx
namespace Go.Proofs.Ytdbnjoeanoiifaa
open Go.RowKit
set_option linter.unusedVariables false
set_option linter.unusedSimpArgs false
attribute [local irreducible] World.setCell

/-- a gate on other qubits -/
def tsG (ts : List Int) (i : Int) : Int := ts.getD i.toNat 0
def mapG (ts : List Int) (g : GateV) : GateV := if 9 ≤ g.f0 ∧ g.f0 ≤ 11 then ⟨g.f0, tsG ts g.f1, tsG ts g.f2⟩ else if g.f0 = 12 then g else ⟨g.f0, tsG ts g.f1, g.f2⟩
theorem ts_at {ts : List Int} {i : Int} {n : Nat} (h0 : 0 ≤ i) (h1 : i < n) (hl : ts.length = n) : ts[i.toNat]? = some (tsG ts i) := by
  unfold tsG
  rw [List.getD_eq_getElem?_getD, List.getElem?_eq_getElem (by omega)]
  rfl
theorem gB_q8 {n : Int} {g : GateV} (h : gB n g = true) (k : inB g.f0 1 8 = true) : 0 ≤ g.f1 ∧ g.f1 ≤ n - 1 ∧ g.f2 = 0 := by
  rw [gB_8 k, Bool.and_eq_true, inB_iff, decide_eq_true_eq] at h
  exact ⟨h.1.1, h.1.2, h.2⟩
theorem gB_q11 {n : Int} {g : GateV} (h : gB n g = true) (k : inB g.f0 9 11 = true) : 0 ≤ g.f1 ∧ g.f1 ≤ n - 1 ∧ 0 ≤ g.f2 ∧ g.f2 ≤ n - 1 := by
  rw [gB_11 k, Bool.and_eq_true, Bool.and_eq_true, inB_iff, inB_iff] at h
  exact ⟨h.1.1.1, h.1.1.2, h.1.2.1, h.1.2.2⟩
theorem gB_q12 {n : Int} {g : GateV} (h : gB n g = true) (k : inB g.f0 1 8 = false) (k2 : inB g.f0 9 11 = false) : g.f0 = 12 ∧ g.f1 = 0 ∧ g.f2 = 0 := by
  rw [gB_12 k k2] at h
  simpa [and_assoc] using h
theorem mapG_8 {ts : List Int} {g : GateV} (k : inB g.f0 1 8 = true) : mapG ts g = ⟨g.f0, tsG ts g.f1, g.f2⟩ := by
  have := inB_iff.1 k; unfold mapG; rw [if_neg (by omega), if_neg (by omega)]
theorem mapG_11 {ts : List Int} {g : GateV} (k : inB g.f0 9 11 = true) : mapG ts g = ⟨g.f0, tsG ts g.f1, tsG ts g.f2⟩ := by
  have := inB_iff.1 k; unfold mapG; rw [if_pos this]
theorem mapG_12 {ts : List Int} {g : GateV} (k : g.f0 = 12) : mapG ts g = g := by
  unfold mapG; rw [if_neg (by omega), if_pos k]
set_option maxRecDepth 100000 in
set_option maxHeartbeats 4000000 in
theorem img_1 {k : Int} {a : Nat} {h m c : Nat} {ts : List Int} {w : World} (hA : Rd intE w (some ⟨h, 0, none⟩) ts) (hn : ts.length = m) (hk : inB k 1 8 = true) (ha : a < m) (hc : m ≤ c) (hm5 : m ≤ 5) :
    Calls Try.prog 62 #[.agg #[.int .i64 k, .int .i64 (a : Int), .int .i64 0], .slice (some ⟨h, 0, none⟩) m c] w fun ee w' => ee = .returned (.agg #[.int .i64 k, .int .i64 (tsG ts (a : Int)), .int .i64 0]) ∧ Below w.heap.size w w' := by
  have HK := lay hk
  have a1 : (a : Int) < (m : Int) := by omega
  clear hk
  have HA := lay hA
  have HN := lay hn
  clear hA hn
  go_enter Try.func62, Try.ntmps62
  go_wp2_with (fail)
  refine (qat (g := ⟨k, (a : Int), 0⟩) (q := 1) (by exact qa_8 HK.out) _).mono ?_
  rintro ee w1 ⟨rfl, hb1⟩
  have hz1 := hb1.size
  (try simp only [World.size_alloc] at hz1)
  have k1_0_0 : w1.cell? ⟨w.heap.size, 0, none⟩ = some (.int .i64 k) := (hb1.cell (p := ⟨w.heap.size, 0, none⟩) (by show w.heap.size < _; (try simp only [World.size_alloc]); omega)).trans (by first | rfl | (simp; done) | (simp [*]; done) | (repeat (first | (simp; done) | (refine Bb.c (Bb.new ?_) _ rfl; (simp; done)) | refine kclAl ?_)))
  have k1_0_1 : w1.cell? ⟨w.heap.size, 1, none⟩ = some (.int .i64 (a : Int)) := (hb1.cell (p := ⟨w.heap.size, 1, none⟩) (by show w.heap.size < _; (try simp only [World.size_alloc]); omega)).trans (by first | rfl | (simp; done) | (simp [*]; done) | (repeat (first | (simp; done) | (refine Bb.c (Bb.new ?_) _ rfl; (simp; done)) | refine kclAl ?_)))
  have k1_0_2 : w1.cell? ⟨w.heap.size, 2, none⟩ = some (.int .i64 0) := (hb1.cell (p := ⟨w.heap.size, 2, none⟩) (by show w.heap.size < _; (try simp only [World.size_alloc]); omega)).trans (by first | rfl | (simp; done) | (simp [*]; done) | (repeat (first | (simp; done) | (refine Bb.c (Bb.new ?_) _ rfl; (simp; done)) | refine kclAl ?_)))
  have r1_0 : ∀ o, w1.frozen? ⟨w.heap.size, o, none⟩ = false := fun o => (hb1.frozen (p := ⟨w.heap.size, o, none⟩) (by show w.heap.size < _; (try simp only [World.size_alloc]); omega)).trans (by first | rfl | (simp; done) | (simp [*]; done) | (repeat (first | (simp; done) | (refine Bb.f (Bb.new ?_) _; (simp; done)) | refine frAl (by (try simp only [World.size_alloc]); omega) ?_)))
  have b1_0 : w.heap.size < w1.heap.size := World.block_lt_of_cell? _ _ k1_0_0
  have k1_1_0 : w1.cell? ⟨w.heap.size + 1, 0, none⟩ = some (.int .i64 0) := (hb1.cell (p := ⟨w.heap.size + 1, 0, none⟩) (by show w.heap.size + 1 < _; (try simp only [World.size_alloc]); omega)).trans (by first | rfl | (simp; done) | (simp [*]; done) | (repeat (first | (simp; done) | (refine Bb.c (Bb.new ?_) _ rfl; (simp; done)) | refine kclAl ?_)))
  have k1_1_1 : w1.cell? ⟨w.heap.size + 1, 1, none⟩ = some (.int .i64 0) := (hb1.cell (p := ⟨w.heap.size + 1, 1, none⟩) (by show w.heap.size + 1 < _; (try simp only [World.size_alloc]); omega)).trans (by first | rfl | (simp; done) | (simp [*]; done) | (repeat (first | (simp; done) | (refine Bb.c (Bb.new ?_) _ rfl; (simp; done)) | refine kclAl ?_)))
  have k1_1_2 : w1.cell? ⟨w.heap.size + 1, 2, none⟩ = some (.int .i64 0) := (hb1.cell (p := ⟨w.heap.size + 1, 2, none⟩) (by show w.heap.size + 1 < _; (try simp only [World.size_alloc]); omega)).trans (by first | rfl | (simp; done) | (simp [*]; done) | (repeat (first | (simp; done) | (refine Bb.c (Bb.new ?_) _ rfl; (simp; done)) | refine kclAl ?_)))
  have r1_1 : ∀ o, w1.frozen? ⟨w.heap.size + 1, o, none⟩ = false := fun o => (hb1.frozen (p := ⟨w.heap.size + 1, o, none⟩) (by show w.heap.size + 1 < _; (try simp only [World.size_alloc]); omega)).trans (by first | rfl | (simp; done) | (simp [*]; done) | (repeat (first | (simp; done) | (refine Bb.f (Bb.new ?_) _; (simp; done)) | refine frAl (by (try simp only [World.size_alloc]); omega) ?_)))
  have b1_1 : w.heap.size + 1 < w1.heap.size := World.block_lt_of_cell? _ _ k1_1_0
  have hW : Below w.heap.size w w1 := by (repeat' (first | (with_reducible exact Below.refl _ _) | (with_reducible assumption) | (with_reducible refine Below.alloc ?_ ?_ _) | (with_reducible refine Below.drew ?_) | (with_reducible refine bdN ?_ _) | (with_reducible refine Below.setCell ?_ ?_ _) | (with_reducible refine chn ?_ (by assumption) ?_) | omega | (simp; done) | (simp; omega)))
  clear hb1
  have hzw := hW.size
  have h_a : ts[a]? = some (tsG ts (a : Int)) := by have h9 := ts_at (i := (a : Int)) (n := m) (by omega) (by omega) HN.out; rwa [Int.toNat_natCast] at h9
  obtain ⟨x_a, X_a⟩ : ∃ y, tsG ts (a : Int) = y := ⟨_, rfl⟩
  rw [X_a] at h_a
  obtain ⟨g_a, o_a, e_a, hg_a, q_a⟩ := HA.out.atInt h_a
  cases e_a
  have u_a : w1.cell? ⟨h, a, none⟩ = some (.int .i64 x_a) := (hW.cell (p := ⟨h, a, none⟩) hg_a).trans (by rw [← q_a, Nat.zero_add])
  have HX_a := lay X_a
  clear h_a q_a X_a
  go_wp2_with (fail)
  have yk1_0_0 : w1.drew.cell? ⟨w.heap.size, 0, none⟩ = some (.int .i64 k) := k1_0_0
  have yk1_0_1 : w1.drew.cell? ⟨w.heap.size, 1, none⟩ = some (.int .i64 (a : Int)) := k1_0_1
  have yu_a : w1.drew.cell? ⟨h, a, none⟩ = some (.int .i64 x_a) := u_a
  refine wp_region_x (fun w' => w'.cell? ⟨w.heap.size, 0, none⟩ = some (.int .i64 k) ∧ w'.cell? ⟨w.heap.size, 1, none⟩ = some (.int .i64 (a : Int)) ∧ w'.cell? ⟨h, a, none⟩ = some (.int .i64 x_a)) 8 (by kernel_rfl) ⟨yk1_0_0, yk1_0_1, yu_a⟩ (fun hS0 => ?_)
  refine wpAnyX_take (i := 0) (oi := _) (v := ?_) rfl (by kernel_rfl) (by kernel_rfl) (by kernel_rfl) (by kernel_rfl) (fun _ _ _ h => h) (Or.inl ⟨by rfl, ?_⟩) hS0 ?_
  rotate_left 1
  · (intro w hSw; (try dsimp only at hSw); go_simp; (try with_reducible rfl))
  try simp only [Act.put, List.setIfInBounds_toArray, List.set_cons_zero, List.set_cons_succ]
  refine wpAnyX_take (i := 1) (oi := _) (v := ?_) rfl (by kernel_rfl) (by kernel_rfl) (by kernel_rfl) (by kernel_rfl) (fun _ _ _ h => h) (Or.inl ⟨by rfl, ?_⟩) hS0 ?_
  rotate_left 1
  · (intro w hSw; (try dsimp only at hSw); go_simp; (try with_reducible rfl))
  try simp only [Act.put, List.setIfInBounds_toArray, List.set_cons_zero, List.set_cons_succ]
  refine wpAnyX_take (i := 2) (oi := _) (v := ?_) rfl (by kernel_rfl) (by kernel_rfl) (by kernel_rfl) (by kernel_rfl) (fun _ _ _ h => h) (Or.inl ⟨by rfl, ?_⟩) hS0 ?_
  rotate_left 1
  · (intro w hSw; (try dsimp only at hSw); go_simp; (try with_reducible rfl))
  try simp only [Act.put, List.setIfInBounds_toArray, List.set_cons_zero, List.set_cons_succ]
  refine wpAnyX_take (i := 3) (oi := _) (v := ?_) rfl (by kernel_rfl) (by kernel_rfl) (by kernel_rfl) (by kernel_rfl) (fun _ _ _ h => h) (Or.inl ⟨by rfl, ?_⟩) hS0 ?_
  rotate_left 1
  · (intro w hSw; (try dsimp only at hSw); go_simp; (try with_reducible rfl))
  try simp only [Act.put, List.setIfInBounds_toArray, List.set_cons_zero, List.set_cons_succ]
  refine wpAnyX_take (i := 4) (oi := _) (v := ?_) rfl (by kernel_rfl) (by kernel_rfl) (by kernel_rfl) (by kernel_rfl) (fun _ _ _ h => h) (Or.inl ⟨by rfl, ?_⟩) hS0 ?_
  rotate_left 1
  · (intro w hSw; (try dsimp only at hSw); go_simp; (try with_reducible rfl))
  try simp only [Act.put, List.setIfInBounds_toArray, List.set_cons_zero, List.set_cons_succ]
  refine wpAnyX_take (i := 5) (oi := _) (v := ?_) rfl (by kernel_rfl) (by kernel_rfl) (by kernel_rfl) (by kernel_rfl) (fun _ _ _ h => h) (Or.inl ⟨by rfl, ?_⟩) hS0 ?_
  rotate_left 1
  · (intro w hSw; (try dsimp only at hSw); go_simp; (try with_reducible rfl))
  try simp only [Act.put, List.setIfInBounds_toArray, List.set_cons_zero, List.set_cons_succ]
  refine wpAnyX_take (i := 6) (oi := _) (v := ?_) rfl (by kernel_rfl) (by kernel_rfl) (by kernel_rfl) (by kernel_rfl) (fun _ _ _ h => h) (Or.inl ⟨by rfl, ?_⟩) hS0 ?_
  rotate_left 1
  · (intro w hSw; (try dsimp only at hSw); go_simp; (try with_reducible rfl))
  try simp only [Act.put, List.setIfInBounds_toArray, List.set_cons_zero, List.set_cons_succ]
  refine wpAnyX_take (i := 7) (oi := _) (v := ?_) rfl (by kernel_rfl) (by kernel_rfl) (by kernel_rfl) (by kernel_rfl) (fun _ _ _ h => h) (Or.inl ⟨by rfl, ?_⟩) hS0 ?_
  rotate_left 1
  · (intro w hSw; (try dsimp only at hSw); go_simp; (try with_reducible rfl))
  try simp only [Act.put, List.setIfInBounds_toArray, List.set_cons_zero, List.set_cons_succ]
  refine wpAnyX_one (i := 8) (o := _) rfl (by kernel_rfl) (fun K hK => ?_)
  go_simp
  refine hK.out _ _ (fun h => absurd rfl h) (fun _ => ?_)
  clear hK K
  try simp only [Act.put, List.setIfInBounds_toArray, List.set_cons_zero, List.set_cons_succ]
  refine wpAnyX_done (by kernel_rfl) ?_ _
  go_wp2_with (fail)
  rw [HX_a.out]
  refine bodyPost_ret (v := .agg #[.int .i64 k, .int .i64 x_a, .int .i64 0]) (by first | (simp [results, Try.results62, go_sem, *]; done) | (simp (disch := (first | omega | (simp; done) | (simp; omega))) [results, Try.results62, go_sem, *]; done) | (simp only [results, Try.results62]; go_simp; done)) rfl ⟨rfl, ?_⟩
  (repeat' (first | (with_reducible exact Below.refl _ _) | (with_reducible assumption) | (with_reducible refine Below.alloc ?_ ?_ _) | (with_reducible refine Below.drew ?_) | (with_reducible refine bdN ?_ _) | (with_reducible refine Below.setCell ?_ ?_ _) | (with_reducible refine chn ?_ (by assumption) ?_) | omega | (simp; done) | (simp; omega)))

set_option maxRecDepth 100000 in
set_option maxHeartbeats 4000000 in
theorem img_2 {k : Int} {a b : Nat} {h m c : Nat} {ts : List Int} {w : World} (hA : Rd intE w (some ⟨h, 0, none⟩) ts) (hn : ts.length = m) (hk : inB k 9 11 = true) (ha : a < m) (hb : b < m) (hc : m ≤ c) (hm5 : m ≤ 5) :
    Calls Try.prog 62 #[.agg #[.int .i64 k, .int .i64 (a : Int), .int .i64 (b : Int)], .slice (some ⟨h, 0, none⟩) m c] w fun ee w' => ee = .returned (.agg #[.int .i64 k, .int .i64 (tsG ts (a : Int)), .int .i64 (tsG ts (b : Int))]) ∧ Below w.heap.size w w' := by
  have HK := lay hk
  have a1 : (a : Int) < (m : Int) := by omega
  have b1 : (b : Int) < (m : Int) := by omega
  clear hk
  have HA := lay hA
  have HN := lay hn
  clear hA hn
  go_enter Try.func62, Try.ntmps62
  go_wp2_with (fail)
  refine (qat (g := ⟨k, (a : Int), (b : Int)⟩) (q := 2) (by exact qa_11 HK.out) _).mono ?_
  rintro ee w1 ⟨rfl, hb1⟩
  have hz1 := hb1.size
  (try simp only [World.size_alloc] at hz1)
  have k1_0_0 : w1.cell? ⟨w.heap.size, 0, none⟩ = some (.int .i64 k) := (hb1.cell (p := ⟨w.heap.size, 0, none⟩) (by show w.heap.size < _; (try simp only [World.size_alloc]); omega)).trans (by first | rfl | (simp; done) | (simp [*]; done) | (repeat (first | (simp; done) | (refine Bb.c (Bb.new ?_) _ rfl; (simp; done)) | refine kclAl ?_)))
  have k1_0_1 : w1.cell? ⟨w.heap.size, 1, none⟩ = some (.int .i64 (a : Int)) := (hb1.cell (p := ⟨w.heap.size, 1, none⟩) (by show w.heap.size < _; (try simp only [World.size_alloc]); omega)).trans (by first | rfl | (simp; done) | (simp [*]; done) | (repeat (first | (simp; done) | (refine Bb.c (Bb.new ?_) _ rfl; (simp; done)) | refine kclAl ?_)))
  have k1_0_2 : w1.cell? ⟨w.heap.size, 2, none⟩ = some (.int .i64 (b : Int)) := (hb1.cell (p := ⟨w.heap.size, 2, none⟩) (by show w.heap.size < _; (try simp only [World.size_alloc]); omega)).trans (by first | rfl | (simp; done) | (simp [*]; done) | (repeat (first | (simp; done) | (refine Bb.c (Bb.new ?_) _ rfl; (simp; done)) | refine kclAl ?_)))
  have r1_0 : ∀ o, w1.frozen? ⟨w.heap.size, o, none⟩ = false := fun o => (hb1.frozen (p := ⟨w.heap.size, o, none⟩) (by show w.heap.size < _; (try simp only [World.size_alloc]); omega)).trans (by first | rfl | (simp; done) | (simp [*]; done) | (repeat (first | (simp; done) | (refine Bb.f (Bb.new ?_) _; (simp; done)) | refine frAl (by (try simp only [World.size_alloc]); omega) ?_)))
  have b1_0 : w.heap.size < w1.heap.size := World.block_lt_of_cell? _ _ k1_0_0
  have k1_1_0 : w1.cell? ⟨w.heap.size + 1, 0, none⟩ = some (.int .i64 0) := (hb1.cell (p := ⟨w.heap.size + 1, 0, none⟩) (by show w.heap.size + 1 < _; (try simp only [World.size_alloc]); omega)).trans (by first | rfl | (simp; done) | (simp [*]; done) | (repeat (first | (simp; done) | (refine Bb.c (Bb.new ?_) _ rfl; (simp; done)) | refine kclAl ?_)))
  have k1_1_1 : w1.cell? ⟨w.heap.size + 1, 1, none⟩ = some (.int .i64 0) := (hb1.cell (p := ⟨w.heap.size + 1, 1, none⟩) (by show w.heap.size + 1 < _; (try simp only [World.size_alloc]); omega)).trans (by first | rfl | (simp; done) | (simp [*]; done) | (repeat (first | (simp; done) | (refine Bb.c (Bb.new ?_) _ rfl; (simp; done)) | refine kclAl ?_)))
  have k1_1_2 : w1.cell? ⟨w.heap.size + 1, 2, none⟩ = some (.int .i64 0) := (hb1.cell (p := ⟨w.heap.size + 1, 2, none⟩) (by show w.heap.size + 1 < _; (try simp only [World.size_alloc]); omega)).trans (by first | rfl | (simp; done) | (simp [*]; done) | (repeat (first | (simp; done) | (refine Bb.c (Bb.new ?_) _ rfl; (simp; done)) | refine kclAl ?_)))
  have r1_1 : ∀ o, w1.frozen? ⟨w.heap.size + 1, o, none⟩ = false := fun o => (hb1.frozen (p := ⟨w.heap.size + 1, o, none⟩) (by show w.heap.size + 1 < _; (try simp only [World.size_alloc]); omega)).trans (by first | rfl | (simp; done) | (simp [*]; done) | (repeat (first | (simp; done) | (refine Bb.f (Bb.new ?_) _; (simp; done)) | refine frAl (by (try simp only [World.size_alloc]); omega) ?_)))
  have b1_1 : w.heap.size + 1 < w1.heap.size := World.block_lt_of_cell? _ _ k1_1_0
  have hW : Below w.heap.size w w1 := by (repeat' (first | (with_reducible exact Below.refl _ _) | (with_reducible assumption) | (with_reducible refine Below.alloc ?_ ?_ _) | (with_reducible refine Below.drew ?_) | (with_reducible refine bdN ?_ _) | (with_reducible refine Below.setCell ?_ ?_ _) | (with_reducible refine chn ?_ (by assumption) ?_) | omega | (simp; done) | (simp; omega)))
  clear hb1
  have hzw := hW.size
  have h_a : ts[a]? = some (tsG ts (a : Int)) := by have h9 := ts_at (i := (a : Int)) (n := m) (by omega) (by omega) HN.out; rwa [Int.toNat_natCast] at h9
  obtain ⟨x_a, X_a⟩ : ∃ y, tsG ts (a : Int) = y := ⟨_, rfl⟩
  rw [X_a] at h_a
  obtain ⟨g_a, o_a, e_a, hg_a, q_a⟩ := HA.out.atInt h_a
  cases e_a
  have u_a : w1.cell? ⟨h, a, none⟩ = some (.int .i64 x_a) := (hW.cell (p := ⟨h, a, none⟩) hg_a).trans (by rw [← q_a, Nat.zero_add])
  have HX_a := lay X_a
  clear h_a q_a X_a
  have h_b : ts[b]? = some (tsG ts (b : Int)) := by have h9 := ts_at (i := (b : Int)) (n := m) (by omega) (by omega) HN.out; rwa [Int.toNat_natCast] at h9
  obtain ⟨x_b, X_b⟩ : ∃ y, tsG ts (b : Int) = y := ⟨_, rfl⟩
  rw [X_b] at h_b
  obtain ⟨g_b, o_b, e_b, hg_b, q_b⟩ := HA.out.atInt h_b
  cases e_b
  have u_b : w1.cell? ⟨h, b, none⟩ = some (.int .i64 x_b) := (hW.cell (p := ⟨h, b, none⟩) hg_b).trans (by rw [← q_b, Nat.zero_add])
  have HX_b := lay X_b
  clear h_b q_b X_b
  go_wp2_with (fail)
  have yk1_0_0 : w1.drew.cell? ⟨w.heap.size, 0, none⟩ = some (.int .i64 k) := k1_0_0
  have yk1_0_1 : w1.drew.cell? ⟨w.heap.size, 1, none⟩ = some (.int .i64 (a : Int)) := k1_0_1
  have yk1_0_2 : w1.drew.cell? ⟨w.heap.size, 2, none⟩ = some (.int .i64 (b : Int)) := k1_0_2
  have yu_a : w1.drew.cell? ⟨h, a, none⟩ = some (.int .i64 x_a) := u_a
  have yu_b : w1.drew.cell? ⟨h, b, none⟩ = some (.int .i64 x_b) := u_b
  refine wp_region_x (fun w' => w'.cell? ⟨w.heap.size, 0, none⟩ = some (.int .i64 k) ∧ w'.cell? ⟨w.heap.size, 1, none⟩ = some (.int .i64 (a : Int)) ∧ w'.cell? ⟨w.heap.size, 2, none⟩ = some (.int .i64 (b : Int)) ∧ w'.cell? ⟨h, a, none⟩ = some (.int .i64 x_a) ∧ w'.cell? ⟨h, b, none⟩ = some (.int .i64 x_b)) 13 (by kernel_rfl) ⟨yk1_0_0, yk1_0_1, yk1_0_2, yu_a, yu_b⟩ (fun hS0 => ?_)
  refine wpAnyX_take (i := 0) (oi := _) (v := ?_) rfl (by kernel_rfl) (by kernel_rfl) (by kernel_rfl) (by kernel_rfl) (fun _ _ _ h => h) (Or.inl ⟨by rfl, ?_⟩) hS0 ?_
  rotate_left 1
  · (intro w hSw; (try dsimp only at hSw); go_simp; (try with_reducible rfl))
  try simp only [Act.put, List.setIfInBounds_toArray, List.set_cons_zero, List.set_cons_succ]
  refine wpAnyX_take (i := 1) (oi := _) (v := ?_) rfl (by kernel_rfl) (by kernel_rfl) (by kernel_rfl) (by kernel_rfl) (fun _ _ _ h => h) (Or.inl ⟨by rfl, ?_⟩) hS0 ?_
  rotate_left 1
  · (intro w hSw; (try dsimp only at hSw); go_simp; (try with_reducible rfl))
  try simp only [Act.put, List.setIfInBounds_toArray, List.set_cons_zero, List.set_cons_succ]
  refine wpAnyX_take (i := 2) (oi := _) (v := ?_) rfl (by kernel_rfl) (by kernel_rfl) (by kernel_rfl) (by kernel_rfl) (fun _ _ _ h => h) (Or.inl ⟨by rfl, ?_⟩) hS0 ?_
  rotate_left 1
  · (intro w hSw; (try dsimp only at hSw); go_simp; (try with_reducible rfl))
  try simp only [Act.put, List.setIfInBounds_toArray, List.set_cons_zero, List.set_cons_succ]
  refine wpAnyX_take (i := 3) (oi := _) (v := ?_) rfl (by kernel_rfl) (by kernel_rfl) (by kernel_rfl) (by kernel_rfl) (fun _ _ _ h => h) (Or.inl ⟨by rfl, ?_⟩) hS0 ?_
  rotate_left 1
  · (intro w hSw; (try dsimp only at hSw); go_simp; (try with_reducible rfl))
  try simp only [Act.put, List.setIfInBounds_toArray, List.set_cons_zero, List.set_cons_succ]
  refine wpAnyX_take (i := 4) (oi := _) (v := ?_) rfl (by kernel_rfl) (by kernel_rfl) (by kernel_rfl) (by kernel_rfl) (fun _ _ _ h => h) (Or.inl ⟨by rfl, ?_⟩) hS0 ?_
  rotate_left 1
  · (intro w hSw; (try dsimp only at hSw); go_simp; (try with_reducible rfl))
  try simp only [Act.put, List.setIfInBounds_toArray, List.set_cons_zero, List.set_cons_succ]
  refine wpAnyX_take (i := 5) (oi := _) (v := ?_) rfl (by kernel_rfl) (by kernel_rfl) (by kernel_rfl) (by kernel_rfl) (fun _ _ _ h => h) (Or.inl ⟨by rfl, ?_⟩) hS0 ?_
  rotate_left 1
  · (intro w hSw; (try dsimp only at hSw); go_simp; (try with_reducible rfl))
  try simp only [Act.put, List.setIfInBounds_toArray, List.set_cons_zero, List.set_cons_succ]
  refine wpAnyX_take (i := 6) (oi := _) (v := ?_) rfl (by kernel_rfl) (by kernel_rfl) (by kernel_rfl) (by kernel_rfl) (fun _ _ _ h => h) (Or.inl ⟨by rfl, ?_⟩) hS0 ?_
  rotate_left 1
  · (intro w hSw; (try dsimp only at hSw); go_simp; (try with_reducible rfl))
  try simp only [Act.put, List.setIfInBounds_toArray, List.set_cons_zero, List.set_cons_succ]
  refine wpAnyX_take (i := 7) (oi := _) (v := ?_) rfl (by kernel_rfl) (by kernel_rfl) (by kernel_rfl) (by kernel_rfl) (fun _ _ _ h => h) (Or.inl ⟨by rfl, ?_⟩) hS0 ?_
  rotate_left 1
  · (intro w hSw; (try dsimp only at hSw); go_simp; (try with_reducible rfl))
  try simp only [Act.put, List.setIfInBounds_toArray, List.set_cons_zero, List.set_cons_succ]
  refine wpAnyX_take (i := 8) (oi := _) (v := ?_) rfl (by kernel_rfl) (by kernel_rfl) (by kernel_rfl) (by kernel_rfl) (fun _ _ _ h => h) (Or.inl ⟨by rfl, ?_⟩) hS0 ?_
  rotate_left 1
  · (intro w hSw; (try dsimp only at hSw); go_simp; (try with_reducible rfl))
  try simp only [Act.put, List.setIfInBounds_toArray, List.set_cons_zero, List.set_cons_succ]
  refine wpAnyX_take (i := 9) (oi := _) (v := ?_) rfl (by kernel_rfl) (by kernel_rfl) (by kernel_rfl) (by kernel_rfl) (fun _ _ _ h => h) (Or.inl ⟨by rfl, ?_⟩) hS0 ?_
  rotate_left 1
  · (intro w hSw; (try dsimp only at hSw); go_simp; (try with_reducible rfl))
  try simp only [Act.put, List.setIfInBounds_toArray, List.set_cons_zero, List.set_cons_succ]
  refine wpAnyX_take (i := 10) (oi := _) (v := ?_) rfl (by kernel_rfl) (by kernel_rfl) (by kernel_rfl) (by kernel_rfl) (fun _ _ _ h => h) (Or.inl ⟨by rfl, ?_⟩) hS0 ?_
  rotate_left 1
  · (intro w hSw; (try dsimp only at hSw); go_simp; (try with_reducible rfl))
  try simp only [Act.put, List.setIfInBounds_toArray, List.set_cons_zero, List.set_cons_succ]
  refine wpAnyX_take (i := 11) (oi := _) (v := ?_) rfl (by kernel_rfl) (by kernel_rfl) (by kernel_rfl) (by kernel_rfl) (fun _ _ _ h => h) (Or.inl ⟨by rfl, ?_⟩) hS0 ?_
  rotate_left 1
  · (intro w hSw; (try dsimp only at hSw); go_simp; (try with_reducible rfl))
  try simp only [Act.put, List.setIfInBounds_toArray, List.set_cons_zero, List.set_cons_succ]
  refine wpAnyX_take (i := 12) (oi := _) (v := ?_) rfl (by kernel_rfl) (by kernel_rfl) (by kernel_rfl) (by kernel_rfl) (fun _ _ _ h => h) (Or.inl ⟨by rfl, ?_⟩) hS0 ?_
  rotate_left 1
  · (intro w hSw; (try dsimp only at hSw); go_simp; (try with_reducible rfl))
  try simp only [Act.put, List.setIfInBounds_toArray, List.set_cons_zero, List.set_cons_succ]
  refine wpAnyX_one (i := 13) (o := _) rfl (by kernel_rfl) (fun K hK => ?_)
  go_simp
  refine hK.out _ _ (fun h => absurd rfl h) (fun _ => ?_)
  clear hK K
  try simp only [Act.put, List.setIfInBounds_toArray, List.set_cons_zero, List.set_cons_succ]
  refine wpAnyX_done (by kernel_rfl) ?_ _
  go_wp2_with (fail)
  rw [HX_a.out]
  rw [HX_b.out]
  refine bodyPost_ret (v := .agg #[.int .i64 k, .int .i64 x_a, .int .i64 x_b]) (by first | (simp [results, Try.results62, go_sem, *]; done) | (simp (disch := (first | omega | (simp; done) | (simp; omega))) [results, Try.results62, go_sem, *]; done) | (simp only [results, Try.results62]; go_simp; done)) rfl ⟨rfl, ?_⟩
  (repeat' (first | (with_reducible exact Below.refl _ _) | (with_reducible assumption) | (with_reducible refine Below.alloc ?_ ?_ _) | (with_reducible refine Below.drew ?_) | (with_reducible refine bdN ?_ _) | (with_reducible refine Below.setCell ?_ ?_ _) | (with_reducible refine chn ?_ (by assumption) ?_) | omega | (simp; done) | (simp; omega)))

set_option maxRecDepth 100000 in
set_option maxHeartbeats 4000000 in
theorem img_0 {h m c : Nat} {ts : List Int} {w : World} (hA : Rd intE w (some ⟨h, 0, none⟩) ts) (hn : ts.length = m)  (hc : m ≤ c) (hm5 : m ≤ 5) :
    Calls Try.prog 62 #[.agg #[.int .i64 12, .int .i64 0, .int .i64 0], .slice (some ⟨h, 0, none⟩) m c] w fun ee w' => ee = .returned (.agg #[.int .i64 12, .int .i64 0, .int .i64 0]) ∧ Below w.heap.size w w' := by
  have HA := lay hA
  have HN := lay hn
  clear hA hn
  go_enter Try.func62, Try.ntmps62
  go_wp2_with (fail)
  refine (qat (g := ⟨12, 0, 0⟩) (q := 0) (by exact qa_12 rfl) _).mono ?_
  rintro ee w1 ⟨rfl, hb1⟩
  have hz1 := hb1.size
  (try simp only [World.size_alloc] at hz1)
  have k1_0_0 : w1.cell? ⟨w.heap.size, 0, none⟩ = some (.int .i64 12) := (hb1.cell (p := ⟨w.heap.size, 0, none⟩) (by show w.heap.size < _; (try simp only [World.size_alloc]); omega)).trans (by first | rfl | (simp; done) | (simp [*]; done) | (repeat (first | (simp; done) | (refine Bb.c (Bb.new ?_) _ rfl; (simp; done)) | refine kclAl ?_)))
  have k1_0_1 : w1.cell? ⟨w.heap.size, 1, none⟩ = some (.int .i64 0) := (hb1.cell (p := ⟨w.heap.size, 1, none⟩) (by show w.heap.size < _; (try simp only [World.size_alloc]); omega)).trans (by first | rfl | (simp; done) | (simp [*]; done) | (repeat (first | (simp; done) | (refine Bb.c (Bb.new ?_) _ rfl; (simp; done)) | refine kclAl ?_)))
  have k1_0_2 : w1.cell? ⟨w.heap.size, 2, none⟩ = some (.int .i64 0) := (hb1.cell (p := ⟨w.heap.size, 2, none⟩) (by show w.heap.size < _; (try simp only [World.size_alloc]); omega)).trans (by first | rfl | (simp; done) | (simp [*]; done) | (repeat (first | (simp; done) | (refine Bb.c (Bb.new ?_) _ rfl; (simp; done)) | refine kclAl ?_)))
  have r1_0 : ∀ o, w1.frozen? ⟨w.heap.size, o, none⟩ = false := fun o => (hb1.frozen (p := ⟨w.heap.size, o, none⟩) (by show w.heap.size < _; (try simp only [World.size_alloc]); omega)).trans (by first | rfl | (simp; done) | (simp [*]; done) | (repeat (first | (simp; done) | (refine Bb.f (Bb.new ?_) _; (simp; done)) | refine frAl (by (try simp only [World.size_alloc]); omega) ?_)))
  have b1_0 : w.heap.size < w1.heap.size := World.block_lt_of_cell? _ _ k1_0_0
  have k1_1_0 : w1.cell? ⟨w.heap.size + 1, 0, none⟩ = some (.int .i64 0) := (hb1.cell (p := ⟨w.heap.size + 1, 0, none⟩) (by show w.heap.size + 1 < _; (try simp only [World.size_alloc]); omega)).trans (by first | rfl | (simp; done) | (simp [*]; done) | (repeat (first | (simp; done) | (refine Bb.c (Bb.new ?_) _ rfl; (simp; done)) | refine kclAl ?_)))
  have k1_1_1 : w1.cell? ⟨w.heap.size + 1, 1, none⟩ = some (.int .i64 0) := (hb1.cell (p := ⟨w.heap.size + 1, 1, none⟩) (by show w.heap.size + 1 < _; (try simp only [World.size_alloc]); omega)).trans (by first | rfl | (simp; done) | (simp [*]; done) | (repeat (first | (simp; done) | (refine Bb.c (Bb.new ?_) _ rfl; (simp; done)) | refine kclAl ?_)))
  have k1_1_2 : w1.cell? ⟨w.heap.size + 1, 2, none⟩ = some (.int .i64 0) := (hb1.cell (p := ⟨w.heap.size + 1, 2, none⟩) (by show w.heap.size + 1 < _; (try simp only [World.size_alloc]); omega)).trans (by first | rfl | (simp; done) | (simp [*]; done) | (repeat (first | (simp; done) | (refine Bb.c (Bb.new ?_) _ rfl; (simp; done)) | refine kclAl ?_)))
  have r1_1 : ∀ o, w1.frozen? ⟨w.heap.size + 1, o, none⟩ = false := fun o => (hb1.frozen (p := ⟨w.heap.size + 1, o, none⟩) (by show w.heap.size + 1 < _; (try simp only [World.size_alloc]); omega)).trans (by first | rfl | (simp; done) | (simp [*]; done) | (repeat (first | (simp; done) | (refine Bb.f (Bb.new ?_) _; (simp; done)) | refine frAl (by (try simp only [World.size_alloc]); omega) ?_)))
  have b1_1 : w.heap.size + 1 < w1.heap.size := World.block_lt_of_cell? _ _ k1_1_0
  have hW : Below w.heap.size w w1 := by (repeat' (first | (with_reducible exact Below.refl _ _) | (with_reducible assumption) | (with_reducible refine Below.alloc ?_ ?_ _) | (with_reducible refine Below.drew ?_) | (with_reducible refine bdN ?_ _) | (with_reducible refine Below.setCell ?_ ?_ _) | (with_reducible refine chn ?_ (by assumption) ?_) | omega | (simp; done) | (simp; omega)))
  clear hb1
  have hzw := hW.size
  go_wp2_with (fail)
  refine bodyPost_ret (v := .agg #[.int .i64 12, .int .i64 0, .int .i64 0]) (by first | (simp [results, Try.results62, go_sem, *]; done) | (simp (disch := (first | omega | (simp; done) | (simp; omega))) [results, Try.results62, go_sem, *]; done) | (simp only [results, Try.results62]; go_simp; done)) rfl ⟨rfl, ?_⟩
  (repeat' (first | (with_reducible exact Below.refl _ _) | (with_reducible assumption) | (with_reducible refine Below.alloc ?_ ?_ _) | (with_reducible refine Below.drew ?_) | (with_reducible refine bdN ?_ _) | (with_reducible refine Below.setCell ?_ ?_ _) | (with_reducible refine chn ?_ (by assumption) ?_) | omega | (simp; done) | (simp; omega)))

theorem img {q : Int} {g y : GateV} {h m c : Nat} {ts : List Int} {w : World} (hg : gB q g = true) (hq : q = (m : Int)) (hy : mapG ts g = y) (hA : Rd intE w (some ⟨h, 0, none⟩) ts) (hn : ts.length = m) (hc : m ≤ c) (hm5 : m ≤ 5) :
    Calls Try.prog 62 #[g.v, .slice (some ⟨h, 0, none⟩) m c] w fun ee w' => ee = .returned y.v ∧ Below w.heap.size w w' := by
  subst hq hy
  cases k8 : inB g.f0 1 8
  · cases k11 : inB g.f0 9 11
    · obtain ⟨h1, h2, h3⟩ := gB_q12 hg k8 k11
      rw [mapG_12 h1]
      obtain ⟨k, f1, f2⟩ := g
      dsimp only at h1 h2 h3
      subst h1 h2 h3
      exact img_0 hA hn hc hm5
    · obtain ⟨h1, h2, h3, h4⟩ := gB_q11 hg k11
      rw [mapG_11 k11]
      obtain ⟨k, f1, f2⟩ := g
      dsimp only at h1 h2 h3 h4 k11 ⊢
      obtain ⟨a, rfl⟩ := Int.eq_ofNat_of_zero_le h1
      obtain ⟨b, rfl⟩ := Int.eq_ofNat_of_zero_le h3
      exact img_2 hA hn k11 (by omega) (by omega) hc hm5
  · obtain ⟨h1, h2, h3⟩ := gB_q8 hg k8
    rw [mapG_8 k8]
    obtain ⟨k, f1, f2⟩ := g
    dsimp only at h1 h2 h3 k8 ⊢
    subst h3
    obtain ⟨a, rfl⟩ := Int.eq_ofNat_of_zero_le h1
    exact img_1 hA hn k8 (by omega) hc hm5
end Go.Proofs.Ytdbnjoeanoiifaa
