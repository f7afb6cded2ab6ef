/- Lists of integers: what is in them. -/
import Derived.Test.YtdbnjoeanoiifaaGa
import Derived.Test.YtdbnjoeanoiifaaSeG
namespace Go.Proofs.Ytdbnjoeanoiifaa
open Go.RowKit
set_option linter.unusedVariables false
set_option linter.unusedSimpArgs false
attribute [local irreducible] World.setCell

theorem mem_take {xs : List Int} {j : Nat} {v x : Int} (hx : xs[j]? = some x) : v ∈ xs.take (j + 1) ↔ v ∈ xs.take j ∨ v = x := by
  have hj : j < xs.length := (List.getElem?_eq_some_iff.1 hx).1
  have hv := (List.getElem?_eq_some_iff.1 hx).2
  rw [List.take_succ_eq_append_getElem hj, hv, List.mem_append, List.mem_singleton]
theorem mem_at {xs : List Int} {j : Nat} {x : Int} (hx : xs[j]? = some x) : x ∈ xs := List.mem_of_getElem? hx
theorem nodup_take {xs : List Int} {j : Nat} {x : Int} (hx : xs[j]? = some x) (h : (xs.take j).Nodup) (hn : x ∉ xs.take j) : (xs.take (j + 1)).Nodup := by
  have hj : j < xs.length := (List.getElem?_eq_some_iff.1 hx).1
  have hv := (List.getElem?_eq_some_iff.1 hx).2
  rw [List.take_succ_eq_append_getElem hj, hv, List.nodup_append]
  exact ⟨h, by simp, fun a ha b hb e => by simp at hb; subst hb; subst e; exact hn ha⟩
theorem nodup_not {xs : List Int} {j : Nat} {x : Int} (hx : xs[j]? = some x) (hn : x ∈ xs.take j) : ¬ xs.Nodup := by
  intro h
  have hj : j < xs.length := (List.getElem?_eq_some_iff.1 hx).1
  have hv := (List.getElem?_eq_some_iff.1 hx).2
  have h2 := h.sublist (List.take_sublist (j + 1) xs)
  rw [List.take_succ_eq_append_getElem hj, hv, List.nodup_append] at h2
  exact h2.2.2 x hn x (by simp) rfl
set_option maxRecDepth 100000 in
set_option maxHeartbeats 2000000 in
theorem lhas {A : Option Addr} {n c : Nat} {xs : List Int} {w : World} {v : Int} {t : Bool} (h : t = true ↔ v ∈ xs) (hA : Rd intE w A xs) (hn : xs.length = n) (hb : n ≤ 1048576) :
    Calls Try.prog 59 #[.slice A n c, .int .i64 v] w fun ee w' => ee = .returned (.bool t) ∧ w = w' := by
  have H := lay h
  clear h
  have HA := lay hA
  have HN := lay hn
  clear hA hn
  go_enter Try.func59, Try.ntmps59
  go_wp2_with (fail)
  go_loopg [9] n (fun k s1 wr => ∃ j : Nat, j + k = n ∧ s1 = .int .i64 (j : Int) ∧ Hid (v ∉ xs.take j) ∧ w = wr)
  case atStart => exact ⟨0, by omega, rfl, (by show v ∉ _; simp), rfl⟩
  case round =>
    obtain ⟨j, hj, rfl, HJ, rfl⟩ := hrel
    cases gk with
    | zero =>
      obtain rfl : j = n := by omega
      have HT : Hid (false = t) := (boolF H.out (by have h := HJ.out; rw [List.take_of_length_le (by rw [HN.out]; exact Nat.le_refl _)] at h; exact h)).symm
      go_wp2_with (fail)
      go_ret
      exact ⟨ret_bool HT.out, rfl⟩
    | succ m =>
      have hlt : j < n := by omega
      obtain ⟨x, hx⟩ : ∃ x, xs[j]? = some x := ⟨_, List.getElem?_eq_getElem (by rw [HN.out]; exact hlt)⟩
      obtain ⟨g, o, rfl, hgw, q0⟩ := HA.out.atInt hx
      have HX := lay hx
      clear hx
      cases he : (x == v)
      · have HE : Hid (¬ v = x) := by show ¬ _; intro e; rw [e] at he; simp at he
        go_wp2_with (fail)
        go_roundg m
        case measure => omega
        case rel => exact ⟨j + 1, by omega, by go_num, (by show v ∉ _; rw [mem_take HX.out]; rintro (h | h); exact HJ.out h; exact HE.out h), rfl⟩
      · have HE : Hid (v = x) := by show _ = _; simp at he; exact he.symm
        have HT : Hid (true = t) := (boolT H.out (by rw [HE.out]; exact mem_at HX.out)).symm
        go_wp2_with (fail)
        go_ret
        exact ⟨ret_bool HT.out, rfl⟩

set_option maxRecDepth 100000 in
set_option maxHeartbeats 2000000 in
theorem sidx_f {A : Option Addr} {n c : Nat} {xs : List Int} {w : World} {v : Int} (h : v ∉ xs) (hA : Rd intE w A xs) (hn : xs.length = n) (hb : n ≤ 1048576) :
    Calls Try.prog 102 #[.slice A n c, .int .i64 v] w fun ee w' => ee = .returned (.int .i64 (-1)) ∧ w = w' := by
  have H := lay h
  clear h
  have HA := lay hA
  have HN := lay hn
  clear hA hn
  go_enter Try.func102, Try.ntmps102
  go_wp2_with (fail)
  go_loopg [8] n (fun k s1 wr => ∃ j : Nat, j + k = n ∧ s1 = .int .i64 (j : Int) ∧ Hid (True) ∧ w = wr)
  case atStart => exact ⟨0, by omega, rfl, trivial, rfl⟩
  case round =>
    obtain ⟨j, hj, rfl, HJ, rfl⟩ := hrel
    cases gk with
    | zero =>
      obtain rfl : j = n := by omega
      go_wp2_with (fail)
      go_ret
      exact ⟨rfl, rfl⟩
    | succ m =>
      have hlt : j < n := by omega
      obtain ⟨x, hx⟩ : ∃ x, xs[j]? = some x := ⟨_, List.getElem?_eq_getElem (by rw [HN.out]; exact hlt)⟩
      obtain ⟨g, o, rfl, hgw, q0⟩ := HA.out.atInt hx
      have HX := lay hx
      clear hx
      have he : (v == x) = false := by simp; intro e; subst e; exact H.out (mem_at HX.out)
      go_wp2_with (fail)
      go_roundg m
      case measure => omega
      case rel => exact ⟨j + 1, by omega, by go_num, trivial, rfl⟩

set_option maxRecDepth 100000 in
set_option maxHeartbeats 2000000 in
theorem sidx_t {A : Option Addr} {n c : Nat} {xs : List Int} {w : World} {v : Int} (h : v ∈ xs) (hA : Rd intE w A xs) (hn : xs.length = n) (hb : n ≤ 1048576) :
    Calls Try.prog 102 #[.slice A n c, .int .i64 v] w fun ee w' => ∃ j : Nat, ee = .returned (.int .i64 (j : Int)) ∧ j < n ∧ w = w' := by
  have H := lay h
  clear h
  have HA := lay hA
  have HN := lay hn
  clear hA hn
  go_enter Try.func102, Try.ntmps102
  go_wp2_with (fail)
  go_loopg [8] n (fun k s1 wr => ∃ j : Nat, j + k = n ∧ s1 = .int .i64 (j : Int) ∧ Hid (v ∉ xs.take j) ∧ w = wr)
  case atStart => exact ⟨0, by omega, rfl, (by show v ∉ _; simp), rfl⟩
  case round =>
    obtain ⟨j, hj, rfl, HJ, rfl⟩ := hrel
    cases gk with
    | zero =>
      obtain rfl : j = n := by omega
      exfalso
      have h := HJ.out
      rw [List.take_of_length_le (by rw [HN.out]; exact Nat.le_refl _)] at h
      exact h H.out
    | succ m =>
      have hlt : j < n := by omega
      obtain ⟨x, hx⟩ : ∃ x, xs[j]? = some x := ⟨_, List.getElem?_eq_getElem (by rw [HN.out]; exact hlt)⟩
      obtain ⟨g, o, rfl, hgw, q0⟩ := HA.out.atInt hx
      have HX := lay hx
      clear hx
      cases he : (v == x)
      · have HE : Hid (¬ v = x) := by show ¬ _; simpa using he
        go_wp2_with (fail)
        go_roundg m
        case measure => omega
        case rel => exact ⟨j + 1, by omega, by go_num, (by show v ∉ _; rw [mem_take HX.out]; rintro (h | h); exact HJ.out h; exact HE.out h), rfl⟩
      · go_wp2_with (fail)
        go_ret
        exact ⟨j, rfl, hlt, rfl⟩

set_option maxRecDepth 100000 in
set_option maxHeartbeats 2000000 in
theorem scon {A : Option Addr} {n c : Nat} {xs : List Int} {w : World} {v : Int} {t : Bool} (h : t = true ↔ v ∈ xs) (hA : Rd intE w A xs) (hn : xs.length = n) (hb : n ≤ 1048576) :
    Calls Try.prog 86 #[.slice A n c, .int .i64 v] w fun ee w' => ee = .returned (.bool t) ∧ w = w' := by
  cases t
  · have H : Hid (v ∉ xs) := fun k => by have := h.2 k; cases this
    clear h
    have HA := lay hA
    have HN := lay hn
    clear hA hn
    go_enter Try.func86, Try.ntmps86
    go_wp2_with (fail)
    refine (sidx_f H.out HA.out HN.out hb).mono ?_
    rintro ee w1 ⟨rfl, rfl⟩
    go_wp2_with (fail)
    go_ret
    exact ⟨rfl, rfl⟩
  · have H : Hid (v ∈ xs) := h.1 rfl
    clear h
    have HA := lay hA
    have HN := lay hn
    clear hA hn
    go_enter Try.func86, Try.ntmps86
    go_wp2_with (fail)
    refine (sidx_t H.out HA.out HN.out hb).mono ?_
    rintro ee w1 ⟨j, rfl, hj, rfl⟩
    go_wp2_with (fail)
    go_ret
    exact ⟨rfl, rfl⟩

set_option maxRecDepth 100000 in
set_option maxHeartbeats 2000000 in
theorem lall {A : Option Addr} {n c : Nat} {xs : List Int} {w : World} {lo hi : Int} {t : Bool} (h : t = true ↔ ∀ x ∈ xs, inB x lo hi = true) (hA : Rd intE w A xs) (hn : xs.length = n) (hb : n ≤ 1048576) :
    Calls Try.prog 64 #[.slice A n c, .int .i64 lo, .int .i64 hi] w fun ee w' => ee = .returned (.bool t) ∧ w = w' := by
  have H := lay h
  clear h
  have HA := lay hA
  have HN := lay hn
  clear hA hn
  go_enter Try.func64, Try.ntmps64
  go_wp2_with (fail)
  go_loopg [11] n (fun k s1 wr => ∃ j : Nat, j + k = n ∧ s1 = .int .i64 (j : Int) ∧ Hid (∀ x ∈ xs.take j, inB x lo hi = true) ∧ w = wr)
  case atStart => exact ⟨0, by omega, rfl, (by show ∀ x ∈ _, _; simp), rfl⟩
  case round =>
    obtain ⟨j, hj, rfl, HJ, rfl⟩ := hrel
    cases gk with
    | zero =>
      obtain rfl : j = n := by omega
      have HT : Hid (true = t) := (boolT H.out (by have h := HJ.out; rw [List.take_of_length_le (by rw [HN.out]; exact Nat.le_refl _)] at h; exact h)).symm
      go_wp2_with (fail)
      go_ret
      exact ⟨ret_bool HT.out, rfl⟩
    | succ m =>
      have hlt : j < n := by omega
      obtain ⟨x, hx⟩ : ∃ x, xs[j]? = some x := ⟨_, List.getElem?_eq_getElem (by rw [HN.out]; exact hlt)⟩
      obtain ⟨g, o, rfl, hgw, q0⟩ := HA.out.atInt hx
      have HX := lay hx
      clear hx
      cases hk : inB x lo hi
      · have HK := lay hk
        have HT : Hid (false = t) := (boolF H.out (fun k => by have := k x (mem_at HX.out); rw [HK.out] at this; cases this)).symm
        clear hk
        go_wp2_with (go_at_call 63; ((with_reducible refine (lin HK.out _).mono ?_); rintro ee w4 ⟨rfl, rfl⟩))
        go_ret
        exact ⟨ret_bool HT.out, rfl⟩
      · have HK := lay hk
        clear hk
        go_wp2_with (go_at_call 63; ((with_reducible refine (lin HK.out _).mono ?_); rintro ee w4 ⟨rfl, rfl⟩))
        go_roundg m
        case measure => omega
        case rel => exact ⟨j + 1, by omega, by go_num, (by show ∀ y ∈ _, _; intro y hy; rcases (mem_take HX.out).1 hy with h | h; exact HJ.out y h; rw [h]; exact HK.out), rfl⟩

set_option maxRecDepth 100000 in
set_option maxHeartbeats 4000000 in
theorem iad {A : Option Addr} {n c : Nat} {xs : List Int} {w : World} {q : Int} {t : Bool} (h : t = true ↔ (∀ x ∈ xs, inB x 0 (q - 1) = true) ∧ xs.Nodup) (hA : Rd intE w A xs) (hn : xs.length = n) (hb : n ≤ 1048576) (hc : n ≤ c) (hc2 : c ≤ 9223372036854775807) :
    Calls Try.prog 61 #[.int .i64 q, .slice A n c] w fun ee w' => ee = .returned (.bool t) ∧ w = w' := by
  have H := lay h
  clear h
  have HA := lay hA
  have HN := lay hn
  clear hA hn
  go_enter Try.func61, Try.ntmps61
  go_wp2_with (fail)
  go_loopg [9] n (fun k s1 wr => ∃ j : Nat, j + k = n ∧ s1 = .int .i64 (j : Int) ∧ Hid ((∀ x ∈ xs.take j, inB x 0 (q - 1) = true) ∧ (xs.take j).Nodup) ∧ w = wr)
  case atStart => exact ⟨0, by omega, rfl, (by show _ ∧ _; simp), rfl⟩
  case round =>
    obtain ⟨j, hj, rfl, HJ, rfl⟩ := hrel
    cases gk with
    | zero =>
      obtain rfl : j = n := by omega
      have HT : Hid (true = t) := (boolT H.out (by have h := HJ.out; rw [List.take_of_length_le (by rw [HN.out]; exact Nat.le_refl _)] at h; exact h)).symm
      go_wp2_with (fail)
      go_ret
      exact ⟨ret_bool HT.out, rfl⟩
    | succ m =>
      have hlt : j < n := by omega
      obtain ⟨x, hx⟩ : ∃ x, xs[j]? = some x := ⟨_, List.getElem?_eq_getElem (by rw [HN.out]; exact hlt)⟩
      obtain ⟨g, o, rfl, hgw, q0⟩ := HA.out.atInt hx
      have HX := lay hx
      clear hx
      have j0 : (0 : Int) ≤ (j : Int) := by omega
      have j1 : (j : Int) ≤ (c : Int) := by omega
      have HR := lay (HA.out.take j)
      have HL : Hid ((xs.take j).length = j) := by show _ = _; rw [List.length_take, HN.out]; omega
      cases hk : inB x 0 (q - 1)
      · have HK := lay hk
        have HT : Hid (false = t) := (boolF H.out (fun k => by have := k.1 x (mem_at HX.out); rw [HK.out] at this; cases this)).symm
        clear hk
        go_wp2_with (go_at_call 85; ((with_reducible refine (iq HK.out _).mono ?_); rintro ee w4 ⟨rfl, rfl⟩))
        go_ret
        exact ⟨ret_bool HT.out, rfl⟩
      · have HK := lay hk
        clear hk
        obtain ⟨u, hu⟩ : ∃ u : Bool, u = true ↔ x ∈ xs.take j := boolOf
        have HM2 := lay hu
        clear hu
        cases u
        · go_wp2_with (first | (go_at_call 85; ((with_reducible refine (iq HK.out _).mono ?_); rintro ee w4 ⟨rfl, rfl⟩)) | (go_at_call 86; ((with_reducible refine (scon HM2.out HR.out HL.out (by omega)).mono ?_); rintro ee w5 ⟨rfl, rfl⟩)))
          go_roundg m
          case measure => omega
          case rel =>
            refine ⟨j + 1, by omega, by go_num, ?_, rfl⟩
            show _ ∧ _
            refine ⟨fun y hy => ?_, nodup_take HX.out HJ.out.2 (fun k => by have := HM2.out.2 k; cases this)⟩
            rcases (mem_take HX.out).1 hy with h | h
            · exact HJ.out.1 y h
            · rw [h]; exact HK.out
        · have HT : Hid (false = t) := (boolF H.out (fun k => nodup_not HX.out (HM2.out.1 rfl) k.2)).symm
          have HM3 : Hid (x ∈ xs.take j) := HM2.out.1 rfl
          go_wp2_with (first | (go_at_call 85; ((with_reducible refine (iq HK.out _).mono ?_); rintro ee w4 ⟨rfl, rfl⟩)) | (go_at_call 86; ((with_reducible refine (scon (t := true) (Iff.intro (fun _ => HM3.out) (fun _ => rfl)) HR.out HL.out (by omega)).mono ?_); rintro ee w5 ⟨rfl, rfl⟩)))
          go_ret
          exact ⟨ret_bool HT.out, rfl⟩

end Go.Proofs.Ytdbnjoeanoiifaa
