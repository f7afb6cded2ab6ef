/- The contract of FormatRing. -/
import Derived.Test.YtdbnjoeanoiifaaDoorInt
import Derived.Deep.AppendLies
import Derived.Lib.AppendIntMem
import Derived.OwnWalk
import Derived.Laws.OwnMore
namespace Go.Proofs.YtdbnjoeanoiifaaDoor
open Go.RowKit RM
set_option linter.unusedVariables false
set_option linter.unusedSimpArgs false
attribute [local irreducible] World.setCell

abbrev p10 (w : World) : Prop := Lib.TabBelow Tryd.prog w.heap.size w "internal/strconv.uint64pow10" .u64 Lib.pow10Tab

theorem itoa_b (a : Int) (w0 w : World) (ht : p10 w0) (hb : Below w0.heap.size w0 w) (h : -1000000000 ≤ a ∧ a ≤ 1000000000) :
    Calls Tryd.prog 28 #[.int .i64 a] w fun e w' => e = .returned (.string (itx a)) ∧ Below w.heap.size w w' :=
  (Tryd.strconv_Itoa a (by omega) (by omega) w (ht w hb)).mono fun e w' ⟨he, k, os, hw⟩ => ⟨he, hw ▸ Lib.below_grow _ _ (Nat.le_refl _) k os⟩

theorem inf9 : (Tryd.prog.info? 9).map (fun i => (i.zero, i.size, i.bytes)) = some (some (.string ByteArray.empty), 1, 16) := by kernel_rfl

theorem own_bel {w w' : World} {B e size n : Nat} {v : Value} {xs : List Value} (h : w.ownsRow B e size v n xs) (hb : Below w.heap.size w w') : w'.ownsRow B e size v n xs := by
  refine ⟨h.1, ?_⟩
  rcases h.2 with hn | ⟨g, cap, cur, hv, hB, hg, rest⟩
  · exact .inl hn
  · obtain ⟨hlt, _⟩ := Array.getElem?_eq_some_iff.1 hg
    exact .inr ⟨g, cap, cur, hv, hB, by rw [hb.block g hlt]; exact hg, rest⟩

/-- the first k of four -/
def ftk (A B C D : ByteArray) : Nat → List ByteArray
  | 0 => []
  | 1 => [A]
  | 2 => [A, B]
  | 3 => [A, B, C]
  | _ => [A, B, C, D]

set_option maxRecDepth 100000 in
theorem ixf (a b c d : Int) (k : Nat) (v : Int) (hv : [a, b, c, d][k]? = some v) (w : World) : (Instr.index 53 (rg a b c d) (.int .i64 (k : Int))).run Tryd.prog w = .ok (.int .i64 v) w := by
  match k, hv with
  | 0, hv => simp at hv; subst hv; rfl
  | 1, hv => simp at hv; subst hv; rfl
  | 2, hv => simp at hv; subst hv; rfl
  | 3, hv => simp at hv; subst hv; rfl
  | n + 4, hv => simp at hv

theorem ftx_join (a b c d : Int) : (⟨(Lib.join ((ftk (itx a) (itx b) (itx c) (itx d) 4).map (·.data.toList)) [32]).toArray⟩ : ByteArray) = ftx a b c d := by
  unfold ftx itx ftk Lib.join
  rw [show (#[32] : Array UInt8) = [32].toArray from rfl]
  simp only [ByteArray.mk_append_mk]
  simp [List.intercalate]

set_option maxRecDepth 100000 in
set_option maxHeartbeats 1000000 in
theorem co_i (a b c d : Int) (w : World) :
    Calls Tryd.prog 27 #[rg a b c d] w fun e w' => e = .returned (rg a b c d) ∧ Below w.heap.size w w' := by
  go_enter Tryd.func27, Tryd.ntmps27
  go_wp2_with (first | go_in)
  refine bodyPost_ret (v := rg a b c d) (by simp [results, Tryd.results27, go_sem, *]) rfl ⟨rfl, ?_⟩
  repeat' (first | (with_reducible exact Below.refl _ _) | (with_reducible refine Below.alloc ?_ ?_ _) | (with_reducible refine Below.drew ?_) | (with_reducible refine Below.setCell ?_ ?_ _) | (with_reducible refine chain ?_ (by assumption) ?_) | omega | (simp; done) | (simp; omega))

theorem join_b (g cap B : Nat) (xs : List ByteArray) (w : World) (hown : w.ownsRow B 9 1 (.slice (some ⟨g, 0, none⟩) 4 cap) 4 (xs.map Value.string)) (hx : xs.length = 4)
    (hlen : (Lib.join (xs.map (·.data.toList)) [32]).length ≤ 140737488355328) :
    Calls Tryd.prog 29 #[.slice (some ⟨g, 0, none⟩) 4 cap, .string ⟨#[32]⟩] w fun e w' => e = .returned (.string ⟨(Lib.join (xs.map (·.data.toList)) [32]).toArray⟩) ∧ Below w.heap.size w w' := by
  obtain ⟨g1, cap1, hv, hB, hlt⟩ := hown.form (by omega)
  have hc : 4 ≤ cap := by
    rcases hown.2 with ⟨h, _⟩ | ⟨g2, cap2, cur, h, _, _, h4, _⟩
    · cases h
    · cases h; exact h4
  cases hv
  have := Tryd.strings_Join g 0 cap xs ⟨#[32]⟩ w (fun j x hj => by
    have hjl : j < xs.length := (List.getElem?_eq_some_iff.1 hj).1
    rw [Nat.zero_add, hown.cellAt j (by omega), List.getElem?_map, hj]; rfl) hlt (by omega) (by omega) hlen
  rw [hx] at this
  exact this

set_option maxRecDepth 100000 in
set_option maxHeartbeats 2000000 in
theorem fr_i_t (a b c d : Int) (w : World) (ht : p10 w) (hx : vr a b c d = true) :
    Calls Tryd.prog 10 #[rg a b c d] w fun e w' => e = .returned (.tuple #[.string (ftx a b c d), .bool true]) ∧ Below w.heap.size w w' := by
  obtain ⟨xa, xb, xc, xd⟩ := vr_iff.1 hx
  obtain ⟨i0, hi, hu0, hu1, hu2⟩ := info_parts inf9
  have ha := fun W hW => itoa_b a w W ht hW xa
  have hb := fun W hW => itoa_b b w W ht hW xb
  have hc := fun W hW => itoa_b c w W ht hW xc
  have hd := fun W hW => itoa_b d w W ht hW xd
  have la := itx_len a xa
  have lb := itx_len b xb
  have lc := itx_len c xc
  have ld := itx_len d xd
  have hj := ftx_join a b c d
  have hjl : (Lib.join ((ftk (itx a) (itx b) (itx c) (itx d) 4).map (·.data.toList)) [32]).length ≤ 140737488355328 := by
    have h1 : (ftx a b c d).size ≤ 1000 := by
      unfold ftx
      simp only [ByteArray.size_append, show (⟨#[32]⟩ : ByteArray).size = 1 from rfl]
      omega
    rw [← hj] at h1
    simp [ByteArray.size] at h1
    omega
  have H := hid hx
  have x0 : ∀ W, (Instr.index 53 (rg a b c d) (.int .i64 0)).run Tryd.prog W = .ok (.int .i64 a) W := fun W => ixf a b c d 0 a rfl W
  have x1 : ∀ W, (Instr.index 53 (rg a b c d) (.int .i64 1)).run Tryd.prog W = .ok (.int .i64 b) W := fun W => ixf a b c d 1 b rfl W
  have x2 : ∀ W, (Instr.index 53 (rg a b c d) (.int .i64 2)).run Tryd.prog W = .ok (.int .i64 c) W := fun W => ixf a b c d 2 c rfl W
  have x3 : ∀ W, (Instr.index 53 (rg a b c d) (.int .i64 3)).run Tryd.prog W = .ok (.int .i64 d) W := fun W => ixf a b c d 3 d rfl W
  generalize ftx a b c d = T at *
  generalize itx a = A at *
  generalize itx b = B at *
  generalize itx c = C at *
  generalize itx d = D at *
  have HJ := hid hj
  have HJL := hid hjl
  clear hx la lb lc ld xa xb xc xd hj hjl ht
  go_enter Tryd.func10, Tryd.ntmps10
  go_wp2_with (first
    | (go_at_call 26; ((with_reducible refine (iv_t _ _ _ _ _ H.out).mono ?_); rintro e w1 ⟨rfl, hb1⟩; obtain ⟨hc1, hf1, hz1⟩ := bcell hb1; (try simp at hz1)))
    | (go_at_call 27; ((with_reducible refine (co_i _ _ _ _ _).mono ?_); rintro e w2 ⟨rfl, hb2⟩; obtain ⟨hc2, hf2, hz2⟩ := bcell hb2; (try simp at hz2)))
    | go_in)
  go_loopw [4, 12] (fun v i wr => ∃ (k : Nat) (ao : Option Addr) (cv : Nat), k ≤ 4 ∧ i = .int .i64 k ∧ v = .slice ao k cv ∧ wr.ownsRow w.heap.size 9 1 v k ((ftk A B C D k).map Value.string) ∧ Below w.heap.size w wr)
    (fun _ i _ => 4 - (intOf i).toNat)
  case atStart => exact ⟨0, none, 0, Nat.zero_le _, rfl, rfl, World.ownsRow_nil _ _ _ _, (((Below.refl _ _).alloc (Nat.le_refl _) _).trans (hb1.mono (by simp))).trans (hb2.mono (by omega))⟩
  case round =>
    obtain ⟨k, ao, cv, hk, rfl, rfl, hown, hnx⟩ := hrel
    have hsize := hnx.size
    rcases (show k = 0 ∨ k = 1 ∨ k = 2 ∨ k = 3 ∨ k = 4 from by omega) with rfl | rfl | rfl | rfl | rfl
    · go_wp2_with (first
        | (go_at_call 28; ((with_reducible refine (ha _ hnx).mono ?_); rintro e w3 ⟨rfl, hb3⟩; have hown3 := own_bel hown hb3; have hz3 := hb3.size))
        | (at_builtin; refine wpList_append_lies _ rfl _ _ 51 rfl w.heap.size 9 i0 (.string ByteArray.empty) 1 16 Tryd.underlying51 hi hu0 hu1 hu2 rfl (by decide) _ _ _ rfl (hown3.alloc _) ⟨w3.heap.size, 0, none⟩ 1 1 [.string A] rfl rfl (cell_one_new _ _ _) (fun x hx => by simp at hx; subst hx; rfl) (by decide) (by unfold maxLen; omega) (by omega) (by simp; omega) _ rfl ?_; intro g cap w4 hown4 hgrow4 hat4 hlt4)
        | go_in)
      go_roundw
      case rel =>
        have hB : Below w.heap.size w w4 := ((chain hnx hb3 hsize).alloc (by omega) _).grown hgrow4 (by simp; omega) (fun q hq => (hown.lt q hq).1)
        have R : 1 ≤ 4 ∧ Value.int .i64 (0 + 1) = .int .i64 ((1 : Nat) : Int) ∧ Value.slice (some ⟨g, 0, none⟩) (0 + 1) cap = .slice (some ⟨g, 0, none⟩) 1 cap ∧ w4.ownsRow w.heap.size 9 1 (.slice (some ⟨g, 0, none⟩) (0 + 1) cap) 1 ((ftk A B C D 1).map Value.string) ∧ Below w.heap.size w w4 :=
          ⟨by omega, by first | rfl | simp, rfl, hown4, hB⟩
        first
          | exact ⟨1, some ⟨g, 0, none⟩, cap, R⟩
          | ((repeat apply Exists.intro); exact ⟨⟨1, some ⟨g, 0, none⟩, cap, R⟩, rfl⟩)
      case measure => simp [intOf]
    · go_wp2_with (first
        | (go_at_call 28; ((with_reducible refine (hb _ hnx).mono ?_); rintro e w3 ⟨rfl, hb3⟩; have hown3 := own_bel hown hb3; have hz3 := hb3.size))
        | (at_builtin; refine wpList_append_lies _ rfl _ _ 51 rfl w.heap.size 9 i0 (.string ByteArray.empty) 1 16 Tryd.underlying51 hi hu0 hu1 hu2 rfl (by decide) _ _ _ rfl (hown3.alloc _) ⟨w3.heap.size, 0, none⟩ 1 1 [.string B] rfl rfl (cell_one_new _ _ _) (fun x hx => by simp at hx; subst hx; rfl) (by decide) (by unfold maxLen; omega) (by omega) (by simp; omega) _ rfl ?_; intro g cap w4 hown4 hgrow4 hat4 hlt4)
        | go_in)
      go_roundw
      case rel =>
        have hB : Below w.heap.size w w4 := ((chain hnx hb3 hsize).alloc (by omega) _).grown hgrow4 (by simp; omega) (fun q hq => (hown.lt q hq).1)
        have R : 2 ≤ 4 ∧ Value.int .i64 (1 + 1) = .int .i64 ((2 : Nat) : Int) ∧ Value.slice (some ⟨g, 0, none⟩) (1 + 1) cap = .slice (some ⟨g, 0, none⟩) 2 cap ∧ w4.ownsRow w.heap.size 9 1 (.slice (some ⟨g, 0, none⟩) (1 + 1) cap) 2 ((ftk A B C D 2).map Value.string) ∧ Below w.heap.size w w4 :=
          ⟨by omega, by first | rfl | simp, rfl, hown4, hB⟩
        first
          | exact ⟨2, some ⟨g, 0, none⟩, cap, R⟩
          | ((repeat apply Exists.intro); exact ⟨⟨2, some ⟨g, 0, none⟩, cap, R⟩, rfl⟩)
      case measure => simp [intOf]
    · go_wp2_with (first
        | (go_at_call 28; ((with_reducible refine (hc _ hnx).mono ?_); rintro e w3 ⟨rfl, hb3⟩; have hown3 := own_bel hown hb3; have hz3 := hb3.size))
        | (at_builtin; refine wpList_append_lies _ rfl _ _ 51 rfl w.heap.size 9 i0 (.string ByteArray.empty) 1 16 Tryd.underlying51 hi hu0 hu1 hu2 rfl (by decide) _ _ _ rfl (hown3.alloc _) ⟨w3.heap.size, 0, none⟩ 1 1 [.string C] rfl rfl (cell_one_new _ _ _) (fun x hx => by simp at hx; subst hx; rfl) (by decide) (by unfold maxLen; omega) (by omega) (by simp; omega) _ rfl ?_; intro g cap w4 hown4 hgrow4 hat4 hlt4)
        | go_in)
      go_roundw
      case rel =>
        have hB : Below w.heap.size w w4 := ((chain hnx hb3 hsize).alloc (by omega) _).grown hgrow4 (by simp; omega) (fun q hq => (hown.lt q hq).1)
        have R : 3 ≤ 4 ∧ Value.int .i64 (2 + 1) = .int .i64 ((3 : Nat) : Int) ∧ Value.slice (some ⟨g, 0, none⟩) (2 + 1) cap = .slice (some ⟨g, 0, none⟩) 3 cap ∧ w4.ownsRow w.heap.size 9 1 (.slice (some ⟨g, 0, none⟩) (2 + 1) cap) 3 ((ftk A B C D 3).map Value.string) ∧ Below w.heap.size w w4 :=
          ⟨by omega, by first | rfl | simp, rfl, hown4, hB⟩
        first
          | exact ⟨3, some ⟨g, 0, none⟩, cap, R⟩
          | ((repeat apply Exists.intro); exact ⟨⟨3, some ⟨g, 0, none⟩, cap, R⟩, rfl⟩)
      case measure => simp [intOf]
    · go_wp2_with (first
        | (go_at_call 28; ((with_reducible refine (hd _ hnx).mono ?_); rintro e w3 ⟨rfl, hb3⟩; have hown3 := own_bel hown hb3; have hz3 := hb3.size))
        | (at_builtin; refine wpList_append_lies _ rfl _ _ 51 rfl w.heap.size 9 i0 (.string ByteArray.empty) 1 16 Tryd.underlying51 hi hu0 hu1 hu2 rfl (by decide) _ _ _ rfl (hown3.alloc _) ⟨w3.heap.size, 0, none⟩ 1 1 [.string D] rfl rfl (cell_one_new _ _ _) (fun x hx => by simp at hx; subst hx; rfl) (by decide) (by unfold maxLen; omega) (by omega) (by simp; omega) _ rfl ?_; intro g cap w4 hown4 hgrow4 hat4 hlt4)
        | go_in)
      go_roundw
      case rel =>
        have hB : Below w.heap.size w w4 := ((chain hnx hb3 hsize).alloc (by omega) _).grown hgrow4 (by simp; omega) (fun q hq => (hown.lt q hq).1)
        have R : 4 ≤ 4 ∧ Value.int .i64 (3 + 1) = .int .i64 ((4 : Nat) : Int) ∧ Value.slice (some ⟨g, 0, none⟩) (3 + 1) cap = .slice (some ⟨g, 0, none⟩) 4 cap ∧ w4.ownsRow w.heap.size 9 1 (.slice (some ⟨g, 0, none⟩) (3 + 1) cap) 4 ((ftk A B C D 4).map Value.string) ∧ Below w.heap.size w w4 :=
          ⟨by omega, by first | rfl | simp, rfl, hown4, hB⟩
        first
          | exact ⟨4, some ⟨g, 0, none⟩, cap, R⟩
          | ((repeat apply Exists.intro); exact ⟨⟨4, some ⟨g, 0, none⟩, cap, R⟩, rfl⟩)
      case measure => simp [intOf]
    · obtain ⟨g, cap, hv, hbg, hglt⟩ := hown.form (by omega)
      cases hv
      have hj := join_b g cv w.heap.size (ftk A B C D 4) wr hown rfl HJL.out
      rw [HJ.out] at hj
      go_wp2_with (first
        | (go_at_call 29; ((with_reducible refine hj.mono ?_); rintro e w5 ⟨rfl, hb5⟩; have hz5 := hb5.size))
        | go_in)
      all_goals refine bodyPost_ret (v := .tuple #[.string T, .bool true]) (by simp [results, Tryd.results10, go_sem, *]) rfl ⟨rfl, ?_⟩
      exact chain hnx hb5 hsize
end Go.Proofs.YtdbnjoeanoiifaaDoor
