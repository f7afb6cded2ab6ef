/- The law FnExactFoldCircuit returns true: FoldCircuit answers as its model at every argument. Conditions: none on the argument; the package variables that the row lists (the gates' names, and the library's tables) hold what the program's text lays. -/
import Derived.Test.YtdbnjoeanoiifaaDoorRows
import Derived.Test.YtdbnjoeanoiifaaDoorCards
import Derived.Test.YtdbnjoeanoiifaaDoorTie
import Derived.Test.YtdbnjoeanoiifaaDoorRdC
import Derived.Test.YtdbnjoeanoiifaaDoorWkFoldCircuit
import Derived.ChangeSame
import Derived.ChangeVars
import Derived.OpenVars
import Derived.JoinedOf
import Derived.RowKit
import Derived.RowKitTokens
import Derived.LaidLaws
import Derived.Lib.LaidIn
import Derived.Lib.LaidTab
import Derived.Stop.LaidErr
import Derived.SevenTiedAt
import Derived.Lib.TrailingZeros
import Derived.Lib.ItoaNum
namespace Go.Proofs.YtdbnjoeanoiifaaDoor.fnExactFoldCircuit
open Go.ChangeShapes Go.WideShapes Go.ChangeAt Go.RowKit
open Go.ChangeMaps (open_string shut_string)
set_option linter.unusedVariables false

theorem gN : Tryd.prog.globalNamed "loop.example/g00864/impl.gateNames" = some 0 := by kernel_rfl
theorem gNt : (Tryd.prog.globals[0]?).map (·.type) = some 121 := by kernel_rfl
theorem cN : Tryd.prog.cellsOf 121 = 13 := by kernel_rfl
theorem cS : Tryd.prog.cellsOf 9 = 1 := by kernel_rfl
def strs : List (List UInt8) := [[], [72], [88], [89], [90], [83], [83, 39], [84], [84, 39], [67, 88], [67, 90], [83, 87, 65, 80], [87]]
/-- an array of strings that reads as a table holds the table's strings -/
theorem strs_at {H : Type} {enc : TypeId × Value → H} {P : Program} {w : World} {base : Nat} {sp : Nat → Bool} {held : Bool} {fuel : Nat} {t e : TypeId} {n : Nat} {cs : List Value} {zs : List (List UInt8)} {p : List MemPlace}
    (ht : P.underlying t = some (.array n e)) (he : P.underlying e = some .string) (hce : P.cellsOf e = 1) (hct : P.cellsOf t = n)
    (h : DataW.trod enc P w base sp held fuel t cs = some ((DataW.agg (zs.map fun z => DataW.lit (Lit.string z)) : DataW H), p)) : ∀ (i : Nat) (s : List UInt8), zs[i]? = some s → cs[i]? = some (Value.string ⟨s.toArray⟩) := by
  intro i s hs
  cases fuel with
  | zero => simp [DataW.trod] at h
  | succ fuel =>
    simp only [DataW.trod, ht, hce, hct, Nat.mul_one] at h
    split at h
    · rename_i hl
      obtain ⟨xs, hm, hx⟩ := Option.map_eq_some_iff.1 h
      have hxs : xs.map (·.1) = zs.map fun z => (DataW.lit (.string z) : DataW H) := by
        have := congrArg Prod.fst hx
        simpa using this
      have hxl : xs.length = n := by simpa using Lib.mapM_length hm
      have hzl : zs.length = n := by
        have := congrArg List.length hxs
        simp at this
        omega
      have hi : i < n := by rw [← hzl]; exact (List.getElem?_eq_some_iff.1 hs).1
      obtain ⟨b, hb, hf⟩ := Lib.mapM_at hm i i (by simp [hi])
      obtain ⟨pre, hc, hd, _⟩ := DataW.trod_string he hf
      have h1 : cs[i]? = some (.string pre) := by
        have := congrArg (·[0]?) hc
        simpa [List.getElem?_take, List.getElem?_drop] using this
      have h2 : (xs.map (·.1))[i]? = some (DataW.lit (.string s) : DataW H) := by rw [hxs, List.getElem?_map, hs]; rfl
      have hb1 : b.1 = DataW.lit (.string pre.data.toList) := by rw [hd]
      rw [List.getElem?_map, hb, Option.map_some, hb1] at h2
      simp only [Option.some.injEq, DataW.lit.injEq, Lit.string.injEq] at h2
      rw [h1, ← h2]
    · cases h
/-- what the condition gives the walk -/
theorem names_of_laid {W : World} (h : laidMet Tryd.prog Rows.fnExactFoldCircuitRow.laid W) : ∀ i, i ≤ 12 → W.cell? ⟨0, i, none⟩ = some (.string (gnm i)) := by
  intro i hi
  obtain ⟨ps, ⟨g', t', cs, fuel, p, q, hg', ht', hvar, hd, _, _⟩, _⟩ := laidMet.tail (laidMet.tail (laidMet.tail h))
  obtain rfl := Option.some.inj (gN.symm.trans hg')
  obtain rfl := Option.some.inj (gNt.symm.trans ht')
  have h1 := strs_at (zs := strs) Tryd.underlying121 Tryd.underlying9 cS cN hd
  have h2 : W.cell? ⟨0, i, none⟩ = cs[i]? := World.var?_cell gN hvar i
  obtain rfl | rfl | rfl | rfl | rfl | rfl | rfl | rfl | rfl | rfl | rfl | rfl | rfl : i = 0 ∨ i = 1 ∨ i = 2 ∨ i = 3 ∨ i = 4 ∨ i = 5 ∨ i = 6 ∨ i = 7 ∨ i = 8 ∨ i = 9 ∨ i = 10 ∨ i = 11 ∨ i = 12 := by omega
  · exact h2.trans (Array.getElem?_toList.symm.trans (h1 0 [] rfl))
  · exact h2.trans (Array.getElem?_toList.symm.trans (h1 1 [72] rfl))
  · exact h2.trans (Array.getElem?_toList.symm.trans (h1 2 [88] rfl))
  · exact h2.trans (Array.getElem?_toList.symm.trans (h1 3 [89] rfl))
  · exact h2.trans (Array.getElem?_toList.symm.trans (h1 4 [90] rfl))
  · exact h2.trans (Array.getElem?_toList.symm.trans (h1 5 [83] rfl))
  · exact h2.trans (Array.getElem?_toList.symm.trans (h1 6 [83, 39] rfl))
  · exact h2.trans (Array.getElem?_toList.symm.trans (h1 7 [84] rfl))
  · exact h2.trans (Array.getElem?_toList.symm.trans (h1 8 [84, 39] rfl))
  · exact h2.trans (Array.getElem?_toList.symm.trans (h1 9 [67, 88] rfl))
  · exact h2.trans (Array.getElem?_toList.symm.trans (h1 10 [67, 90] rfl))
  · exact h2.trans (Array.getElem?_toList.symm.trans (h1 11 [83, 87, 65, 80] rfl))
  · exact h2.trans (Array.getElem?_toList.symm.trans (h1 12 [87] rfl))

/-- a world that meets the condition: the settled one, the four variables laid -/
noncomputable def laidWorld (os : Os) : World :=
  let w0 := World.holding Tryd.prog os ⟨#[], #[], []⟩
  let put (h : Array Obj) (g : Nat) (cs : Array Value) : Array Obj := h.modify g fun
    | .cells _ t frozen => .cells cs t frozen
    | o => o
  { w0 with heap := put (put (put (put w0.heap 4 (Lib.pow10Tab.map fun z => Value.int .u64 z).toArray) 7 (Lib.deBruijn32tab.map fun (z : Nat) => Value.int .u8 (z : Int)).toArray) 8 (Lib.deBruijn64tab.map fun (z : Nat) => Value.int .u8 (z : Int)).toArray) 0 (strs.map fun s => Value.string ⟨s.toArray⟩).toArray }

theorem laid_met (os : Os) (args : Array Value) : laidMet Tryd.prog Rows.fnExactFoldCircuitRow.laid ((laidWorld os).forCall (fun _ _ => 0) ⟨#[], args, []⟩).memory :=
  (LaidIn.of_run [7, 8, 4, 0] 8 (by kernel_rfl) (by kernel_rfl) (by kernel_rfl) (by kernel_rfl)).met

set_option maxRecDepth 100000 in
theorem lifted (os : Os) (started : os.Started) (H : Type) (enc : TypeId × Value → H) :
    ReturnsInHanded {} Tryd.checked os 7 .any (fun w args => (Rows.fnExactFoldCircuitSpec.pre enc Tryd.prog Tryd.f7 [] false w args ∧ laidMet Tryd.prog Rows.fnExactFoldCircuitRow.laid w) ∧ sizedMet enc Tryd.prog Tryd.f7 (OpenSpec.ofChange Rows.fnExactFoldCircuitSpec) false w args)
      (Rows.fnExactFoldCircuitSpec.post enc Tryd.prog Tryd.f7 false true false false) := by
  refine returnsInHanded_of_change_and (C := Tryd.checked) (X := fun w _ => laidMet Tryd.prog Rows.fnExactFoldCircuitRow.laid w) (fun _ _ _ hh h => h.of_heap hh) own started (by kernel_rfl) Tryd.func7
    (ChangeSpec.witness_at (enc := enc) (C := Tryd.checked) (os := os) (X := fun w _ => laidMet Tryd.prog Rows.fnExactFoldCircuitRow.laid w) false (laidWorld os) #[circuitV 0 none 0 0] 8 rfl (by kernel_rfl) (by kernel_rfl) (by kernel_rfl) (by kernel_rfl) (by kernel_rfl) (laid_met os _)) ?_
  intro W base args ds gs before hval0 hW hcnd _ hL _
  have hval : ∀ (j : Nat) t v, Tryd.f7.params[j]? = some t → args[j]? = some v → Value.okWide Tryd.prog W .any base t v := hval0
  have hW' := hW
  obtain ⟨p, q, hA0, hV, rfl, hfz, hnd⟩ := hW
  have hA : DataW.TrodAll enc Tryd.prog W 0 (fun _ => true) true Tryd.f7.params.toList args.toList ds p := hA0
  rw [Tryd.params7] at hA hval
  obtain ⟨v0, vs0, d0, ds0, p0, q0, hargs, rfl, rfl, h0, r0⟩ := trodAll_cons hA
  obtain ⟨rfl, rfl, rfl⟩ := trodAll_nil r0
  obtain rfl : args = #[v0] := by cases args; simp_all
  have hV1 : DataW.TrodVars enc Tryd.prog W (fun _ => true) ["loop.example/g00864/impl.gateNames"] gs q := hV
  obtain ⟨gg, tt, cc, ff, dv, pv, rfl, -, -, -, -, -⟩ := trodVars_one hV1
  have k0 := h0
  have lt0 : ∀ x ∈ p0, x.block < W.heap.size := by obtain ⟨m, hm⟩ := k0; exact DataW.trod_lt m _ _ _ hm
  obtain ⟨a0_0, A0_1, n0_1, c0_1, xs0_1, rfl, _, ⟨hR0_1, hl0_1, hm0_1⟩⟩ := argCircuit (hval 0 41 v0 rfl rfl) h0
  clear hA0 hval0
  refine (fnExactFoldCircuit_walk (names_of_laid hL) hR0_1 hl0_1 hm0_1).mono fun e W' ⟨he, bel⟩ => ?_
  subst he
  exact ⟨_, rfl, _, _, _, _, _, _, hW', trodAll_mk1 (shut_bool Tryd.underlying4 _), (trodAll_cons_mk (Below.trod laidOut (by kernel_rfl) (of_decide_eq_true (by kernel_rfl)) k0 bel lt0) trodAll_mk0), Below.trodVars laidOut bel (by kernel_rfl) hV1, bel.frame _, fun h => by cases h⟩

theorem over : Rows.fnExactFoldCircuitRow.holds Tryd.pinned (OpenSpec.ofChange Rows.fnExactFoldCircuitSpec) :=
  OpenClaim.holds_of_wide 7 Tryd.f7 rfl rfl rfl rfl rfl rfl rfl ⟨rfl, rfl, rfl, rfl, rfl⟩ rfl rfl rfl rfl rfl (by kernel_rfl) Tryd.func7 (by kernel_rfl)
    (of_decide_eq_true (by kernel_rfl)) (by unfold Func.isWrapper; first | (rw [if_pos (by decide +kernel)]; kernel_rfl) | (rw [if_neg (by decide +kernel)]; exact ⟨rfl, rfl⟩))
    (fun os started H enc _ => lifted os started H enc)

theorem proved : Rows.FnExactFoldCircuitCardSaid :=
  Claim7.holds_tied_plain_at .later [] [.data, .data, .data, .data] true (true, "209f779075f0f88f5ef88cbc55f7487102bf66abf0e7471f55e99cd6c5bb9e6c") true
    over (fun _ h => by cases h) (by kernel_rfl) (fun _ h => by cases h) fnExactFoldCircuit_row_tie rfl ⟨rfl, rfl⟩ (by kernel_rfl) rfl
    (fun f fn hf hfn => by
      obtain rfl : f = 7 := Option.some.inj ((show Tryd.prog.funcNamed "loop.example/g00864/laws.FnExactFoldCircuit" = some 7 by kernel_rfl).symm.trans hf) |>.symm
      obtain rfl : fn = Tryd.f7 := (Option.some.inj (Tryd.func7.symm.trans hfn)).symm
      exact ⟨by kernel_rfl, fun j t ht => by
        rw [Tryd.params7] at ht
        have h3 : t = 41 := by
          rcases j with _ | j
          · simpa using ht.symm
          · simp at ht
        subst h3
        exact (show Tryd.prog.wantsStandIn 41 = false by kernel_rfl)⟩)
    (by kernel_rfl)
#print axioms proved
end Go.Proofs.YtdbnjoeanoiifaaDoor.fnExactFoldCircuit
