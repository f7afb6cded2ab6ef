/- strings.Cut at a blank. -/
import Derived.Test.YtofclfgaekjonaaDoorSh2
import Derived.Test.YtofclfgaekjonaaDoorEn
import Derived.Deep.RegionHeld3
import Derived.Deep.DeepCutAuto
import Derived.IntWalk
import Derived.BigQuiet
namespace Go.Proofs.YtofclfgaekjonaaDoor
open Go.RowKit
set_option linter.unusedVariables false
set_option linter.unusedSimpArgs false
attribute [local irreducible] World.setCell

set_option maxRecDepth 100000 in
set_option maxHeartbeats 2000000 in
theorem cut_miss0 {s : ByteArray} (h : Lib.indexByte s.data.toList 32 = -1) (w : World) :
    Calls Tryd.prog 52 #[.string s, .string ⟨#[32]⟩] w fun e w' => e = .returned (.tuple #[.string s, .string ⟨#[]⟩, .bool false]) ∧ Below w.heap.size w w' := by
  have H := lay h
  clear h
  go_enter Tryd.func52, Tryd.ntmps52
  go_wp2_with (fail)
  refine (Tryd.stringslite_Index_one s 32 _).mono ?_
  rintro ee w1 ⟨rfl, rfl⟩
  rw [H.out]
  go_wp2_with (fail)
  refine bodyPost_ret (v := .tuple #[.string s, .string ⟨#[]⟩, .bool false]) (by first | (simp [results, Tryd.results52, go_sem, *]; done) | (simp (disch := (first | omega | (simp; done) | (simp; omega))) [results, Tryd.results52, go_sem, *]; done) | (simp only [results, Tryd.results52]; go_simp; done)) rfl ⟨rfl, ?_⟩
  (repeat' (first | (with_reducible exact Below.refl _ _) | (with_reducible assumption) | (with_reducible refine Below.alloc ?_ ?_ _) | (with_reducible refine Below.drew ?_) | (with_reducible refine bdN ?_ _) | (with_reducible refine Below.setCell ?_ ?_ _) | (with_reducible refine chn ?_ (by assumption) ?_) | omega | (simp; done) | (simp; omega)))

set_option maxRecDepth 100000 in
set_option maxHeartbeats 2000000 in
theorem cut_hit0 {s : ByteArray} {i : Nat} (h : Lib.indexByte s.data.toList 32 = (i : Int)) (hi : i < s.size) (hs : s.size ≤ 1048576) (w : World) :
    Calls Tryd.prog 52 #[.string s, .string ⟨#[32]⟩] w fun e w' => e = .returned (.tuple #[.string (s.extract 0 i), .string (s.extract (i + 1) s.size), .bool true]) ∧ Below w.heap.size w w' := by
  have H := lay h
  clear h
  have i0 : (0 : Int) ≤ (i : Int) := by omega
  have i1 : (i : Int) ≤ (s.size : Int) := by omega
  have i2 : (0 : Int) ≤ (i : Int) + 1 := by omega
  have i3 : (i : Int) + 1 ≤ (s.size : Int) := by omega
  have e1 : IntKind.i64.wrap ((i : Int) + 1) = (i : Int) + 1 := IntWalk.i64_in _ (by omega)
  have t1 : ((i : Int) + 1).toNat = i + 1 := by omega
  go_enter Tryd.func52, Tryd.ntmps52
  go_wp2_with (fail)
  refine (Tryd.stringslite_Index_one s 32 _).mono ?_
  rintro ee w1 ⟨rfl, rfl⟩
  rw [H.out]
  go_wp2_with (fail)
  go_quiet (fail)
  all_goals (go_wp2_with (fail))
  all_goals refine bodyPost_ret (v := .tuple #[.string (s.extract 0 i), .string (s.extract (i + 1) s.size), .bool true]) (by first | (simp [results, Tryd.results52, go_sem, *]; done) | (simp (disch := (first | omega | (simp; done) | (simp; omega))) [results, Tryd.results52, go_sem, *]; done) | (simp only [results, Tryd.results52]; go_simp; done)) rfl ⟨rfl, ?_⟩
  all_goals (repeat' (first | (with_reducible exact Below.refl _ _) | (with_reducible assumption) | (with_reducible refine Below.alloc ?_ ?_ _) | (with_reducible refine Below.drew ?_) | (with_reducible refine bdN ?_ _) | (with_reducible refine Below.setCell ?_ ?_ _) | (with_reducible refine chn ?_ (by assumption) ?_) | omega | (simp; done) | (simp; omega)))

set_option maxRecDepth 100000 in
set_option maxHeartbeats 2000000 in
theorem cut_of {s u v : ByteArray} {ok : Bool} (h : ∀ w, Calls Tryd.prog 52 #[.string s, .string ⟨#[32]⟩] w fun e w' => e = .returned (.tuple #[.string u, .string v, .bool ok]) ∧ Below w.heap.size w w') (w : World) :
    Calls Tryd.prog 34 #[.string s, .string ⟨#[32]⟩] w fun e w' => e = .returned (.tuple #[.string u, .string v, .bool ok]) ∧ Below w.heap.size w w' := by
  have H := lay h
  clear h
  go_enter Tryd.func34, Tryd.ntmps34
  go_wp2_with (fail)
  refine (H.out _).mono ?_
  rintro ee w1 ⟨rfl, hb⟩
  have HB := lay hb
  clear hb
  go_wp2_with (fail)
  refine bodyPost_ret (v := .tuple #[.string u, .string v, .bool ok]) (by first | (simp [results, Tryd.results34, go_sem, *]; done) | (simp (disch := (first | omega | (simp; done) | (simp; omega))) [results, Tryd.results34, go_sem, *]; done) | (simp only [results, Tryd.results34]; go_simp; done)) rfl ⟨rfl, ?_⟩
  exact HB.out

end Go.Proofs.YtofclfgaekjonaaDoor
