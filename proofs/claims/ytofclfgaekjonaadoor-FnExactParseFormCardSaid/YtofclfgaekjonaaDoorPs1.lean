/- The model's l1Split. -/
import Derived.Test.YtofclfgaekjonaaDoorEn
import Derived.Test.YtofclfgaekjonaaDoorAp
import Derived.Deep.LoopGhost
namespace Go.Proofs.YtofclfgaekjonaaDoor
open Go.RowKit
set_option linter.unusedVariables false
set_option linter.unusedSimpArgs false
attribute [local irreducible] World.setCell

/-- texts in cells -/
def strE : Enc ByteArray := ⟨1, fun s => [.string s], fun _ => rfl, by decide, fun x v hv => by
  simp only [List.mem_singleton] at hv; subst hv; rfl⟩
theorem infoStr : (Tryd.prog.info? 9).map (fun i => (i.zero, i.size, i.bytes)) = some (some (.string ByteArray.empty), 1, 16) := by kernel_rfl
/-- the pieces before the i-th byte: where the next one begins, and those that have ended -/
def spS (s : ByteArray) (k : Int) : Nat → Nat × List ByteArray
  | 0 => (0, [])
  | i + 1 => if s.data.toList[i]?.map (fun b => (b.toNat : Int)) = some k then (i + 1, (spS s k i).2 ++ [s.extract (spS s k i).1 i]) else spS s k i
theorem byt_at {s : ByteArray} {j : Nat} (h : j < s.size) : s.data.toList[j]?.map (fun b => (b.toNat : Int)) = some (((s[j]'h).toNat : Nat) : Int) := by
  have h2 : j < s.data.toList.length := by rw [Array.length_toList]; exact h
  rw [List.getElem?_eq_getElem h2, Option.map_some]
  rfl
theorem spS_hit {s : ByteArray} {k : Int} {j fr : Nat} {os : List ByteArray} (h : j < s.size) (e : ((s[j]'h).toNat : Int) = k) (hs : spS s k j = (fr, os)) : spS s k (j + 1) = (j + 1, os ++ [s.extract fr j]) := by
  rw [spS, if_pos (by rw [byt_at h, e]), hs]
theorem spS_miss {s : ByteArray} {k : Int} {j : Nat} (h : j < s.size) (e : ((s[j]'h).toNat : Int) ≠ k) : spS s k (j + 1) = spS s k j := by
  rw [spS, if_neg (by rw [byt_at h]; intro c; exact e (Option.some.inj c))]
/-- the pieces of a text -/
def spl (s : ByteArray) (k : Int) : List ByteArray := (spS s k s.size).2 ++ [s.extract (spS s k s.size).1 s.size]
def SpP (L : List ByteArray) (w : World) (ee : Ending) (w' : World) : Prop := ∃ (A : Option Addr) (cp : Nat), ee = .returned (.slice A L.length cp) ∧ Rd strE w' A L ∧ Below w.heap.size w w'
theorem SpP.i {L : List ByteArray} {w w' : World} {ee : Ending} {A : Option Addr} {n cp : Nat} (hk : L.length = n) (he : ee = .returned (.slice A n cp)) (hR : Rd strE w' A L) (hb : Below w.heap.size w w') : SpP L w ee w' := ⟨A, cp, by rw [hk]; exact he, hR, hb⟩
set_option maxRecDepth 100000 in
set_option maxHeartbeats 8000000 in
theorem split_s {s : ByteArray} {k : Int} {L : List ByteArray} (hL : spl s k = L) (hs : s.size ≤ 1048576) (w : World) :
    Calls Tryd.prog 32 #[.string s, .int .u8 k] w fun ee w' => SpP L w ee w' := by
  obtain ⟨i0, hi0, iz0, iz1, iz2⟩ := info_parts infoStr
  have HL := lay hL
  clear hL
  go_enter Tryd.func32, Tryd.ntmps32
  go_wp2_with (fail)
  go_loopg [5, 6, 7] s.size (fun r s5 s6 s7 wr => ∃ (j fr n cp : Nat) (A : Option Addr) (os : List ByteArray), j + r = s.size ∧ s5 = .slice A n cp ∧ s6 = .int .i64 (fr : Int) ∧ s7 = .int .i64 (j : Int) ∧ Hid (spS s k j = (fr, os)) ∧ fr ≤ j ∧ Hid (os.length = n) ∧ n ≤ j ∧ Hid (Own strE wr w.heap.size 9 (.slice A n cp) os) ∧ Hid (Below w.heap.size w wr))
  case atStart => exact ⟨0, 0, 0, 0, none, [], by omega, rfl, rfl, rfl, lay rfl, by omega, lay rfl, by omega, lay (Own.nil _ _ _), lay (Below.refl _ _)⟩
  case round =>
    obtain ⟨j, fr, n, cp, A, os, hj, rfl, rfl, rfl, HS, hfr, HN, hn, HO, HB⟩ := hrel
    have hBz := HB.out.size
    have hmax : n + 1 ≤ maxLen := by unfold maxLen; omega
    have hby : (n + 1) * 16 ≤ 140737488355328 := by omega
    have f0 : (0 : Int) ≤ (fr : Int) := by omega
    have f1 : (fr : Int) ≤ (j : Int) := by omega
    have f2 : (j : Int) ≤ (s.size : Int) := by omega
    have f3 : (fr : Int) ≤ (s.size : Int) := by omega
    cases gk with
    | zero =>
      have hjs : j = s.size := by omega
      subst hjs
      have HE : Hid (os ++ [s.extract fr s.size] = L) := by
        show _ = _
        rw [← HL.out]; unfold spl; rw [HS.out]
      go_wp2_with (at_builtin; refine wpList_app1 (E := strE) rfl _ _ _ rfl w.heap.size 9 i0 _ 16 Tryd.underlying52 hi0 iz0 iz1 iz2 rfl _ _ n HN.out (by rfl) (HO.out.alloc _) _ _ (s.extract fr s.size) #[.string (s.extract fr s.size)] rfl (by rfl) (heap_alloc_new _ _) hmax hby (by simp only [World.size_alloc]; omega) ?_; intro A2 cp2 w9 hO2 hG2 hat2; have HO9 := lay hO2; have HG9 := lay hG2; clear hO2 hG2 hat2)
      have HLn : Hid (L.length = n + 1) := by show _ = _; rw [← HE.out, List.length_append, HN.out]; rfl
      have HOL := HO9.out
      rw [HE.out] at HOL
      obtain ⟨A3, cp3, h3, hR3, _⟩ := HOL.form
      rw [HLn.out] at h3
      cases h3
      refine bodyPost_ret (v := .slice A2 (n + 1) cp2) (by first | (simp [results, Tryd.results32, go_sem, *]; done) | (simp (disch := (first | omega | (simp; done) | (simp; omega))) [results, Tryd.results32, go_sem, *]; done) | (simp only [results, Tryd.results32]; go_simp; done)) rfl (SpP.i HLn.out rfl hR3 ?_)
      exact (HB.out.alloc (by omega) _).grown HG9.out (by simp only [World.size_alloc]; omega) (fun q hq => (HO.out.lt q hq).1)
    | succ r =>
      have hlt : j < s.size := by omega
      have j0 : (0 : Int) ≤ (j : Int) := by omega
      have j1 : (j : Int) < (s.size : Int) := by omega
      have e1 : IntKind.i64.wrap ((j : Int) + 1) = (j : Int) + 1 := IntWalk.i64_in _ (by omega)
      obtain ⟨b, hb⟩ : ∃ b : Int, ((s[j]'hlt).toNat : Int) = b := ⟨_, rfl⟩
      by_cases hbk : b = k
      · subst hbk
        have HE : Hid (spS s b (j + 1) = (j + 1, os ++ [s.extract fr j])) := spS_hit hlt hb HS.out
        go_wp2_with (at_builtin; refine wpList_app1 (E := strE) rfl _ _ _ rfl w.heap.size 9 i0 _ 16 Tryd.underlying52 hi0 iz0 iz1 iz2 rfl _ _ n HN.out (by rfl) (HO.out.alloc _) _ _ (s.extract fr j) #[.string (s.extract fr j)] rfl (by rfl) (heap_alloc_new _ _) hmax hby (by simp only [World.size_alloc]; omega) ?_; intro A2 cp2 w9 hO2 hG2 hat2; have HO9 := lay hO2; have HG9 := lay hG2; clear hO2 hG2 hat2)
        go_roundg r
        case measure => omega
        case rel => exact ⟨j + 1, j + 1, n + 1, cp2, A2, os ++ [s.extract fr j], by omega, rfl, by go_num, by go_num, HE, by omega, lay (by rw [List.length_append, HN.out]; rfl), by omega, HO9, lay ((HB.out.alloc (by omega) _).grown HG9.out (by simp only [World.size_alloc]; omega) (fun q hq => (HO.out.lt q hq).1))⟩
      · have HE : Hid (spS s k (j + 1) = (fr, os)) := (spS_miss hlt (by rw [hb]; exact hbk)).trans HS.out
        go_wp2_with (fail)
        go_roundg r
        case measure => omega
        case rel => exact ⟨j + 1, fr, n, cp, A, os, by omega, rfl, rfl, by go_num, HE, by omega, HN, by omega, HO, HB⟩
end Go.Proofs.YtofclfgaekjonaaDoor
