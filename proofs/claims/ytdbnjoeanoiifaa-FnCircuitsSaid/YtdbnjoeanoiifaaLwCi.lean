/- The walk of the law on circuits. -/
import Derived.Test.YtdbnjoeanoiifaaDr6
import Derived.Test.YtdbnjoeanoiifaaDr8
import Derived.Test.YtdbnjoeanoiifaaKc
import Derived.Test.YtdbnjoeanoiifaaGe
import Derived.Test.YtdbnjoeanoiifaaRdB4
namespace Go.Proofs.Ytdbnjoeanoiifaa
open Go.RowKit
set_option linter.unusedVariables false
set_option linter.unusedSimpArgs false
attribute [local irreducible] World.setCell

set_option maxRecDepth 100000 in
set_option maxHeartbeats 16000000 in
theorem fnCircuits_walk {A0 A1 : Option Addr} {l0 l1 c0 c1 : Nat} {w : World} (h0 : By8 w A0 l0) (h1 : By8 w A1 l1) :
    Calls Try.prog 4 #[.slice A0 l0 c0, .slice A1 l1 c1] w fun ee w' => ee = .returned (.bool true) ∧ Below w.heap.size w w' := by
  have P0 := lay h0
  have P1 := lay h1
  have HB := lay (Below.refl w.heap.size w)
  have hl0 := h0.le
  have hl1 := h1.le
  clear h0 h1
  go_enter Try.func4, Try.ntmps4
  go_wp2_with (fail)
  refine (big_any _ hl0 hl1).mono ?_
  rintro ee w1 ⟨v, rfl, hb⟩
  have hs := hb.size
  (try simp only [World.size_alloc] at hs)
  replace P0 := lay ((P0.out).below hb)
  replace P1 := lay ((P1.out).below hb)
  replace HB := lay (chn HB.out hb (by (try simp only [World.size_alloc]); omega))
  have hzw1 : w.heap.size ≤ w1.heap.size := HB.out.size
  clear hb
  cases v
  rotate_left 1
  · go_wp2_with (fail)
    go_ret
    exact ⟨rfl, HB.out⟩
  go_wp2_with (fail)
  refine (draw_concat P0.out).mono ?_
  rintro ee w2 ⟨n, m, B, C, cq, cr, xs, ys, rfl, hx9, hy9, hRB, hRC, hpB, hpC, hb⟩
  obtain ⟨L, hL⟩ : ∃ L, xs.length = L := ⟨_, rfl⟩
  rw [hL] at hx9 hpB ⊢
  obtain ⟨M, hM⟩ : ∃ L, ys.length = L := ⟨_, rfl⟩
  rw [hM] at hy9 hpC ⊢
  have hs := hb.size
  (try simp only [World.size_alloc] at hs)
  replace P0 := lay ((P0.out).below hb)
  replace P1 := lay ((P1.out).below hb)
  replace HB := lay (chn HB.out hb (by (try simp only [World.size_alloc]); omega))
  have hzw2 : w.heap.size ≤ w2.heap.size := HB.out.size
  clear hb
  have XB := lay hRB
  have XC := lay hRC
  have PB := lay hpB
  have PC := lay hpC
  have HL := lay hL
  have HM := lay hM
  clear hRB hRC hpB hpC hL hM
  obtain ⟨t, ht⟩ : ∃ t, catB n m L M xs ys = t := ⟨_, rfl⟩
  obtain ⟨q, hq⟩ : ∃ q, q = if t then n else 0 := ⟨_, rfl⟩
  obtain ⟨Z, hZ⟩ : ∃ Z, Z = if t then xs ++ ys else [] := ⟨_, rfl⟩
  have hz9 : Z.length ≤ 18 := by rw [hZ]; exact cat_len HL.out HM.out hx9 hy9 t
  obtain ⟨K, hK⟩ : ∃ K, Z.length = K := ⟨_, rfl⟩
  rw [hK] at hz9
  have HT := lay ht
  have HQ := lay hq
  have HZ := lay hZ
  have HK := lay hK
  clear ht hq hZ hK
  go_wp2_with (fail)
  refine (iCat (((XB.out).al _).al _) PB.out (((XC.out).al _).al _) PC.out HL.out HM.out hx9 hy9 HT.out HQ.out HZ.out).mono ?_
  rintro ee w3 ⟨D, cd, rfl, hRD, hb⟩
  rw [HK.out]
  have hs := hb.size
  (try simp only [World.size_alloc] at hs)
  have hs0 : w2.heap.size + 2 ≤ w3.heap.size := by omega
  have Ya := lay ((((Bb.new (W := _) (b := w2.heap.size) (t := 42) (cs := #[.int .i64 n, .slice B L cq]) (by first | rfl | (simp; done)))).alloc _).mono hb)
  have Yb := lay (((Bb.new (W := _) (b := w2.heap.size + 1) (t := 42) (cs := #[.int .i64 m, .slice C M cr]) (by first | rfl | (simp; done)))).mono hb)
  replace XB := lay ((((XB.out).al _).al _).mono hb)
  replace XC := lay ((((XC.out).al _).al _).mono hb)
  replace P0 := lay ((((P0.out).alloc _).alloc _).below hb)
  replace P1 := lay ((((P1.out).alloc _).alloc _).below hb)
  replace HB := lay (chn ((HB.out.alloc (by (try simp only [World.size_alloc]); omega) _).alloc (by (try simp only [World.size_alloc]); omega) _) hb (by (try simp only [World.size_alloc]); omega))
  have hzw3 : w.heap.size ≤ w3.heap.size := HB.out.size
  clear hb
  have XD := lay hRD
  clear hRD
  have cYa0 := Ya.out.c 0 rfl
  have cYa1 := Ya.out.c 1 rfl
  have lYa := Ya.out.lt
  have cYb0 := Yb.out.c 0 rfl
  have cYb1 := Yb.out.c 1 rfl
  have lYb := Yb.out.lt
  go_wp2_with (fail)
  refine (sCat ((XB.out).al _) PB.out ((XC.out).al _) PC.out HL.out HM.out hx9 hy9 HT.out HQ.out HZ.out).mono ?_
  rintro ee w4 ⟨E, ce, rfl, hRE, hb⟩
  rw [HK.out]
  have hs := hb.size
  (try simp only [World.size_alloc] at hs)
  have hs0 : w3.heap.size + 1 ≤ w4.heap.size := by omega
  clear cYa0 cYa1 lYa
  replace Ya := lay (((Ya.out).alloc _).mono hb)
  clear cYb0 cYb1 lYb
  replace Yb := lay (((Yb.out).alloc _).mono hb)
  have Yc := lay (((Bb.new (W := _) (b := w3.heap.size) (t := 42) (cs := #[.int .i64 q, .slice D K cd]) (by first | rfl | (simp; done)))).mono hb)
  replace XB := lay (((XB.out).al _).mono hb)
  replace XC := lay (((XC.out).al _).mono hb)
  replace XD := lay (((XD.out).al _).mono hb)
  replace P0 := lay (((P0.out).alloc _).below hb)
  replace P1 := lay (((P1.out).alloc _).below hb)
  replace HB := lay (chn (HB.out.alloc (by (try simp only [World.size_alloc]); omega) _) hb (by (try simp only [World.size_alloc]); omega))
  have hzw4 : w.heap.size ≤ w4.heap.size := HB.out.size
  clear hb
  have XE := lay hRE
  clear hRE
  have cYa0 := Ya.out.c 0 rfl
  have cYa1 := Ya.out.c 1 rfl
  have lYa := Ya.out.lt
  have cYb0 := Yb.out.c 0 rfl
  have cYb1 := Yb.out.c 1 rfl
  have lYb := Yb.out.lt
  have cYc0 := Yc.out.c 0 rfl
  have cYc1 := Yc.out.c 1 rfl
  have lYc := Yc.out.lt
  go_wp2_with (fail)
  refine (eqc_s (t := true) (Iff.intro (fun _ => ⟨rfl, rfl⟩) (fun _ => rfl)) ((XD.out).al _) ((XE.out).al _) HK.out HK.out (by omega) (by omega)).mono ?_
  rintro ee w5 ⟨rfl, hb⟩
  have hs := hb.size
  (try simp only [World.size_alloc] at hs)
  have hs0 : w4.heap.size + 1 ≤ w5.heap.size := by omega
  clear cYa0 cYa1 lYa
  replace Ya := lay (((Ya.out).alloc _).mono hb)
  clear cYb0 cYb1 lYb
  replace Yb := lay (((Yb.out).alloc _).mono hb)
  clear cYc0 cYc1 lYc
  replace Yc := lay (((Yc.out).alloc _).mono hb)
  have Yd := lay (((Bb.new (W := _) (b := w4.heap.size) (t := 42) (cs := #[.int .i64 q, .slice E K ce]) (by first | rfl | (simp; done)))).mono hb)
  replace XB := lay (((XB.out).al _).mono hb)
  replace XC := lay (((XC.out).al _).mono hb)
  replace XD := lay (((XD.out).al _).mono hb)
  replace XE := lay (((XE.out).al _).mono hb)
  replace P0 := lay (((P0.out).alloc _).below hb)
  replace P1 := lay (((P1.out).alloc _).below hb)
  replace HB := lay (chn (HB.out.alloc (by (try simp only [World.size_alloc]); omega) _) hb (by (try simp only [World.size_alloc]); omega))
  have hzw5 : w.heap.size ≤ w5.heap.size := HB.out.size
  clear hb
  clear Yd XE
  cases t
  rotate_left 1
  · have HV := cat_true HT.out
    obtain ⟨o1, o2, o3⟩ := HV
    have hq : q = n := HQ.out
    have hZ : Z = xs ++ ys := HZ.out
    subst hq hZ
    have o4 : okC q K (xs ++ ys) = true := cat_ok o1 (by rw [o3]; exact o2) (by omega)
    obtain ⟨cx, hcx⟩ : ∃ c, xs.countP isT = c := ⟨_, rfl⟩
    obtain ⟨cy, hcy⟩ : ∃ c, ys.countP isT = c := ⟨_, rfl⟩
    have hcz : (xs ++ ys).countP isT = cx + cy := by rw [List.countP_append, hcx, hcy]
    have b1 : cx ≤ 9 := by have h9 : xs.countP isT ≤ xs.length := List.countP_le_length; have h8 := HL.out; omega
    have b2 : cy ≤ 9 := by have h9 : ys.countP isT ≤ ys.length := List.countP_le_length; have h8 := HM.out; omega
    have O1 := lay o1
    have O2 := lay o2
    have O4 := lay o4
    have CX := lay hcx
    have CY := lay hcy
    have CZ := lay hcz
    clear o1 o2 o3 o4 hcx hcy hcz HT HQ HZ
    have hm9 : (L : Nat) ≤ maxLen := by unfold maxLen; omega
    have hm8 : (M : Nat) ≤ maxLen := by unfold maxLen; omega
    have hm7 : (K : Nat) ≤ maxLen := by unfold maxLen; omega
    have sm : IntKind.i64.wrap ((cx : Int) + (cy : Int)) = ((cx + cy : Nat) : Int) := by rw [IntWalk.i64_in _ (by omega)]; omega
    have cYa0 := Ya.out.c 0 rfl
    have cYa1 := Ya.out.c 1 rfl
    have lYa := Ya.out.lt
    have cYb0 := Yb.out.c 0 rfl
    have cYb1 := Yb.out.c 1 rfl
    have lYb := Yb.out.lt
    have cYc0 := Yc.out.c 0 rfl
    have cYc1 := Yc.out.c 1 rfl
    have lYc := Yc.out.lt
    go_wp2_with (fail)
    refine (iCountT_t (XB.out) HL.out hm9 O1.out).mono ?_
    rintro ee w6 ⟨rfl, hb⟩
    rw [CX.out]
    have hs := hb.size
    (try simp only [World.size_alloc] at hs)
    clear cYa0 cYa1 lYa
    replace Ya := lay ((Ya.out).mono hb)
    clear cYb0 cYb1 lYb
    replace Yb := lay ((Yb.out).mono hb)
    clear cYc0 cYc1 lYc
    replace Yc := lay ((Yc.out).mono hb)
    replace XB := lay ((XB.out).mono hb)
    replace XC := lay ((XC.out).mono hb)
    replace XD := lay ((XD.out).mono hb)
    replace P0 := lay ((P0.out).below hb)
    replace P1 := lay ((P1.out).below hb)
    replace HB := lay (chn HB.out hb (by (try simp only [World.size_alloc]); omega))
    have hzw6 : w.heap.size ≤ w6.heap.size := HB.out.size
    clear hb
    clear Ya XB
    have cYb0 := Yb.out.c 0 rfl
    have cYb1 := Yb.out.c 1 rfl
    have lYb := Yb.out.lt
    have cYc0 := Yc.out.c 0 rfl
    have cYc1 := Yc.out.c 1 rfl
    have lYc := Yc.out.lt
    go_wp2_with (fail)
    refine (iCountT_t (XC.out) HM.out hm8 O2.out).mono ?_
    rintro ee w7 ⟨rfl, hb⟩
    rw [CY.out]
    have hs := hb.size
    (try simp only [World.size_alloc] at hs)
    clear cYb0 cYb1 lYb
    replace Yb := lay ((Yb.out).mono hb)
    clear cYc0 cYc1 lYc
    replace Yc := lay ((Yc.out).mono hb)
    replace XC := lay ((XC.out).mono hb)
    replace XD := lay ((XD.out).mono hb)
    replace P0 := lay ((P0.out).below hb)
    replace P1 := lay ((P1.out).below hb)
    replace HB := lay (chn HB.out hb (by (try simp only [World.size_alloc]); omega))
    have hzw7 : w.heap.size ≤ w7.heap.size := HB.out.size
    clear hb
    clear Yb XC
    have cYc0 := Yc.out.c 0 rfl
    have cYc1 := Yc.out.c 1 rfl
    have lYc := Yc.out.lt
    go_wp2_with (fail)
    refine (iCountT_t (XD.out) HK.out hm7 O4.out).mono ?_
    rintro ee w8 ⟨rfl, hb⟩
    rw [CZ.out]
    have hs := hb.size
    (try simp only [World.size_alloc] at hs)
    clear cYc0 cYc1 lYc
    replace Yc := lay ((Yc.out).mono hb)
    replace XD := lay ((XD.out).mono hb)
    replace P0 := lay ((P0.out).below hb)
    replace P1 := lay ((P1.out).below hb)
    replace HB := lay (chn HB.out hb (by (try simp only [World.size_alloc]); omega))
    have hzw8 : w.heap.size ≤ w8.heap.size := HB.out.size
    clear hb
    clear Yc XD
    go_wp2_with (fail)
    go_wp2_with (fail)
    refine (draw_inverse P1.out).mono ?_
    rintro ee v1 ⟨n2, B2, cq2, zs, rfl, h59, hRB2, hb⟩
    obtain ⟨L2, hL2⟩ : ∃ L, zs.length = L := ⟨_, rfl⟩
    rw [hL2] at h59 ⊢
    have hs := hb.size
    (try simp only [World.size_alloc] at hs)
    replace P0 := lay ((P0.out).below hb)
    replace P1 := lay ((P1.out).below hb)
    replace HB := lay (chn HB.out hb (by (try simp only [World.size_alloc]); omega))
    have hzv1 : w.heap.size ≤ v1.heap.size := HB.out.size
    clear hb
    have XF := lay hRB2
    have HL2 := lay hL2
    clear hRB2 hL2
    obtain ⟨u, hu⟩ : ∃ u, invB n2 L2 zs = u := ⟨_, rfl⟩
    obtain ⟨q2, hq2⟩ : ∃ q, q = if u then n2 else 0 := ⟨_, rfl⟩
    obtain ⟨Z2, hZ2⟩ : ∃ Z, Z = if u then invL zs else [] := ⟨_, rfl⟩
    obtain ⟨K2, hK2⟩ : ∃ K, Z2.length = K := ⟨_, rfl⟩
    have HU := lay hu
    have HQ2 := lay hq2
    have HZ2 := lay hZ2
    have HK2 := lay hK2
    clear hu hq2 hZ2 hK2
    go_wp2_with (fail)
    refine (iInv ((XF.out).al _) HL2.out h59 HU.out HQ2.out HZ2.out).mono ?_
    rintro ee v2 ⟨D2, cd2, rfl, hRD2, hb⟩
    rw [HK2.out]
    have hs := hb.size
    (try simp only [World.size_alloc] at hs)
    have hs0 : v1.heap.size + 1 ≤ v2.heap.size := by omega
    have Ye := lay (((Bb.new (W := _) (b := v1.heap.size) (t := 42) (cs := #[.int .i64 n2, .slice B2 L2 cq2]) (by first | rfl | (simp; done)))).mono hb)
    replace XF := lay (((XF.out).al _).mono hb)
    replace P0 := lay (((P0.out).alloc _).below hb)
    replace P1 := lay (((P1.out).alloc _).below hb)
    replace HB := lay (chn (HB.out.alloc (by (try simp only [World.size_alloc]); omega) _) hb (by (try simp only [World.size_alloc]); omega))
    have hzv2 : w.heap.size ≤ v2.heap.size := HB.out.size
    clear hb
    have XG := lay hRD2
    clear hRD2
    cases u
    · skip
      have cYe0 := Ye.out.c 0 rfl
      have cYe1 := Ye.out.c 1 rfl
      have lYe := Ye.out.lt
      go_wp2_with (fail)
      refine (draw_map ((P0.out).alloc _)).mono ?_
      rintro ee u1 ⟨n3, m3, B3, C3, cq3, cr3, zs3, ts, rfl, h8, n1, n3b, nm1, nm2, hts, hRB3, hRC3, hp3, hp4, hb⟩
      obtain ⟨L3, hL3⟩ : ∃ L, zs3.length = L := ⟨_, rfl⟩
      rw [hL3] at h8 hp3 ⊢
      obtain ⟨M3, hM3⟩ : ∃ L, ts.length = L := ⟨_, rfl⟩
      rw [hM3] at hts hp4 ⊢
      obtain ⟨h, rfl⟩ : ∃ h, C3 = some ⟨h, 0, none⟩ := by rcases hp4.1 with ⟨_, h9, _⟩ | h9; (· omega); exact h9
      have hs := hb.size
      (try simp only [World.size_alloc] at hs)
      have hs0 : v2.heap.size + 1 ≤ u1.heap.size := by omega
      clear cYe0 cYe1 lYe
      replace Ye := lay (((Ye.out).alloc _).mono hb)
      have Yf := lay (((Bb.new (W := _) (b := v2.heap.size) (t := 42) (cs := #[.int .i64 q2, .slice D2 K2 cd2]) (by first | rfl | (simp; done)))).mono hb)
      replace XF := lay (((XF.out).al _).mono hb)
      replace XG := lay (((XG.out).al _).mono hb)
      replace P0 := lay (((P0.out).alloc _).below hb)
      replace P1 := lay (((P1.out).alloc _).below hb)
      replace HB := lay (chn (HB.out.alloc (by (try simp only [World.size_alloc]); omega) _) hb (by (try simp only [World.size_alloc]); omega))
      have hzu1 : w.heap.size ≤ u1.heap.size := HB.out.size
      clear hb
      clear Ye
      clear Yf
      clear XF
      clear XG
      have XH := lay hRB3
      have XI := lay hRC3
      have PH := lay hp3
      have PI := lay hp4
      have HL3 := lay hL3
      have HM3 := lay hM3
      clear hRB3 hRC3 hp3 hp4 hL3 hM3
      obtain ⟨s, hs9⟩ : ∃ s, mapB n3 m3 L3 zs3 ts = s := ⟨_, rfl⟩
      obtain ⟨q3, hq3⟩ : ∃ q, q = if s then m3 else 0 := ⟨_, rfl⟩
      obtain ⟨Z3, hZ3⟩ : ∃ Z, Z = if s then zs3.map (mapG ts) else [] := ⟨_, rfl⟩
      have hz8 : Z3.length ≤ 8 := by rw [hZ3]; exact map_len HL3.out h8 _ s
      obtain ⟨K3, hK3⟩ : ∃ K, Z3.length = K := ⟨_, rfl⟩
      rw [hK3] at hz8
      have HS := lay hs9
      have HQ3 := lay hq3
      have HZ3 := lay hZ3
      have HK3 := lay hK3
      clear hs9 hq3 hZ3 hK3
      go_wp2_with (fail)
      refine (iMapA ((XH.out).al _) PH.out ((XI.out).al _) HL3.out HM3.out PI.out h8 hts (by omega) (by omega) (by omega) HS.out HQ3.out HZ3.out).mono ?_
      rintro ee u2 ⟨D3, cd3, rfl, hRD3, hb⟩
      rw [HK3.out]
      have hs := hb.size
      (try simp only [World.size_alloc] at hs)
      have hs0 : u1.heap.size + 1 ≤ u2.heap.size := by omega
      have Yg := lay (((Bb.new (W := _) (b := u1.heap.size) (t := 42) (cs := #[.int .i64 n3, .slice B3 L3 cq3]) (by first | rfl | (simp; done)))).mono hb)
      replace XH := lay (((XH.out).al _).mono hb)
      replace XI := lay (((XI.out).al _).mono hb)
      replace P0 := lay (((P0.out).alloc _).below hb)
      replace P1 := lay (((P1.out).alloc _).below hb)
      replace HB := lay (chn (HB.out.alloc (by (try simp only [World.size_alloc]); omega) _) hb (by (try simp only [World.size_alloc]); omega))
      have hzu2 : w.heap.size ≤ u2.heap.size := HB.out.size
      clear hb
      have XJ := lay hRD3
      clear hRD3
      have cYg0 := Yg.out.c 0 rfl
      have cYg1 := Yg.out.c 1 rfl
      have lYg := Yg.out.lt
      go_wp2_with (fail)
      refine (sMapA ((XH.out).al _) PH.out ((XI.out).al _) HL3.out HM3.out PI.out h8 hts (by omega) (by omega) (by omega) HS.out HQ3.out HZ3.out).mono ?_
      rintro ee u3 ⟨E3, ce3, rfl, hRE3, hb⟩
      rw [HK3.out]
      have hs := hb.size
      (try simp only [World.size_alloc] at hs)
      have hs0 : u2.heap.size + 1 ≤ u3.heap.size := by omega
      clear cYg0 cYg1 lYg
      replace Yg := lay (((Yg.out).alloc _).mono hb)
      have Yh := lay (((Bb.new (W := _) (b := u2.heap.size) (t := 42) (cs := #[.int .i64 q3, .slice D3 K3 cd3]) (by first | rfl | (simp; done)))).mono hb)
      replace XH := lay (((XH.out).al _).mono hb)
      replace XI := lay (((XI.out).al _).mono hb)
      replace XJ := lay (((XJ.out).al _).mono hb)
      replace P0 := lay (((P0.out).alloc _).below hb)
      replace P1 := lay (((P1.out).alloc _).below hb)
      replace HB := lay (chn (HB.out.alloc (by (try simp only [World.size_alloc]); omega) _) hb (by (try simp only [World.size_alloc]); omega))
      have hzu3 : w.heap.size ≤ u3.heap.size := HB.out.size
      clear hb
      have XK := lay hRE3
      clear hRE3
      clear XH XI Yg
      have cYh0 := Yh.out.c 0 rfl
      have cYh1 := Yh.out.c 1 rfl
      have lYh := Yh.out.lt
      go_wp2_with (fail)
      refine (eqc_s (t := true) (Iff.intro (fun _ => ⟨rfl, rfl⟩) (fun _ => rfl)) ((XJ.out).al _) ((XK.out).al _) HK3.out HK3.out (by omega) (by omega)).mono ?_
      rintro ee u4 ⟨rfl, hb⟩
      have hs := hb.size
      (try simp only [World.size_alloc] at hs)
      have hs0 : u3.heap.size + 1 ≤ u4.heap.size := by omega
      clear cYh0 cYh1 lYh
      replace Yh := lay (((Yh.out).alloc _).mono hb)
      have Yi := lay (((Bb.new (W := _) (b := u3.heap.size) (t := 42) (cs := #[.int .i64 q3, .slice E3 K3 ce3]) (by first | rfl | (simp; done)))).mono hb)
      replace XJ := lay (((XJ.out).al _).mono hb)
      replace XK := lay (((XK.out).al _).mono hb)
      replace P0 := lay (((P0.out).alloc _).below hb)
      replace P1 := lay (((P1.out).alloc _).below hb)
      replace HB := lay (chn (HB.out.alloc (by (try simp only [World.size_alloc]); omega) _) hb (by (try simp only [World.size_alloc]); omega))
      have hzu4 : w.heap.size ≤ u4.heap.size := HB.out.size
      clear hb
      go_wp2_with (fail)
      go_ret
      exact ⟨rfl, HB.out⟩
    · have HV := inv_len HU.out
      obtain ⟨o1, o2⟩ := HV
      have hq : q2 = n2 := HQ2.out
      have hZ : Z2 = invL zs := HZ2.out
      subst hq hZ
      have k400 : K2 ≤ 400 := by have := HK2.out; omega
      have o3 : okC q2 K2 (invL zs) = true := inv_ok o1 k400
      have og : zs.all (gB q2) = true := by unfold okC at o1; rw [Bool.and_eq_true] at o1; exact o1.2
      have e1 := inv_isT og
      have e2 := inv_isTwo og
      obtain ⟨cx, hcx⟩ : ∃ c, zs.countP isT = c := ⟨_, rfl⟩
      obtain ⟨cy, hcy⟩ : ∃ c, zs.countP isTwo = c := ⟨_, rfl⟩
      rw [hcx] at e1
      rw [hcy] at e2
      have O1 := lay o1
      have O3 := lay o3
      have CX := lay hcx
      have CY := lay hcy
      have CZ := lay e1
      have CW := lay e2
      clear o1 o2 o3 og hcx hcy e1 e2 HU HQ2 HZ2
      have hm9 : (L2 : Nat) ≤ maxLen := by unfold maxLen; omega
      have hm7 : (K2 : Nat) ≤ maxLen := by unfold maxLen; omega
      have cYe0 := Ye.out.c 0 rfl
      have cYe1 := Ye.out.c 1 rfl
      have lYe := Ye.out.lt
      go_wp2_with (fail)
      refine (iCountT_t ((XF.out).al _) HL2.out hm9 O1.out).mono ?_
      rintro ee v3 ⟨rfl, hb⟩
      rw [CX.out]
      have hs := hb.size
      (try simp only [World.size_alloc] at hs)
      have hs0 : v2.heap.size + 1 ≤ v3.heap.size := by omega
      clear cYe0 cYe1 lYe
      replace Ye := lay (((Ye.out).alloc _).mono hb)
      have Yf := lay (((Bb.new (W := _) (b := v2.heap.size) (t := 42) (cs := #[.int .i64 q2, .slice D2 K2 cd2]) (by first | rfl | (simp; done)))).mono hb)
      replace XF := lay (((XF.out).al _).mono hb)
      replace XG := lay (((XG.out).al _).mono hb)
      replace P0 := lay (((P0.out).alloc _).below hb)
      replace P1 := lay (((P1.out).alloc _).below hb)
      replace HB := lay (chn (HB.out.alloc (by (try simp only [World.size_alloc]); omega) _) hb (by (try simp only [World.size_alloc]); omega))
      have hzv3 : w.heap.size ≤ v3.heap.size := HB.out.size
      clear hb
      have cYe0 := Ye.out.c 0 rfl
      have cYe1 := Ye.out.c 1 rfl
      have lYe := Ye.out.lt
      have cYf0 := Yf.out.c 0 rfl
      have cYf1 := Yf.out.c 1 rfl
      have lYf := Yf.out.lt
      go_wp2_with (fail)
      refine (iCountT_t (XG.out) HK2.out hm7 O3.out).mono ?_
      rintro ee v4 ⟨rfl, hb⟩
      rw [CZ.out]
      have hs := hb.size
      (try simp only [World.size_alloc] at hs)
      clear cYe0 cYe1 lYe
      replace Ye := lay ((Ye.out).mono hb)
      clear cYf0 cYf1 lYf
      replace Yf := lay ((Yf.out).mono hb)
      replace XF := lay ((XF.out).mono hb)
      replace XG := lay ((XG.out).mono hb)
      replace P0 := lay ((P0.out).below hb)
      replace P1 := lay ((P1.out).below hb)
      replace HB := lay (chn HB.out hb (by (try simp only [World.size_alloc]); omega))
      have hzv4 : w.heap.size ≤ v4.heap.size := HB.out.size
      clear hb
      have cYe0 := Ye.out.c 0 rfl
      have cYe1 := Ye.out.c 1 rfl
      have lYe := Ye.out.lt
      have cYf0 := Yf.out.c 0 rfl
      have cYf1 := Yf.out.c 1 rfl
      have lYf := Yf.out.lt
      go_wp2_with (fail)
      refine (iCountTwo_t (XF.out) HL2.out hm9 O1.out).mono ?_
      rintro ee v5 ⟨rfl, hb⟩
      rw [CY.out]
      have hs := hb.size
      (try simp only [World.size_alloc] at hs)
      clear cYe0 cYe1 lYe
      replace Ye := lay ((Ye.out).mono hb)
      clear cYf0 cYf1 lYf
      replace Yf := lay ((Yf.out).mono hb)
      replace XF := lay ((XF.out).mono hb)
      replace XG := lay ((XG.out).mono hb)
      replace P0 := lay ((P0.out).below hb)
      replace P1 := lay ((P1.out).below hb)
      replace HB := lay (chn HB.out hb (by (try simp only [World.size_alloc]); omega))
      have hzv5 : w.heap.size ≤ v5.heap.size := HB.out.size
      clear hb
      clear Ye XF
      have cYf0 := Yf.out.c 0 rfl
      have cYf1 := Yf.out.c 1 rfl
      have lYf := Yf.out.lt
      go_wp2_with (fail)
      refine (iCountTwo_t (XG.out) HK2.out hm7 O3.out).mono ?_
      rintro ee v6 ⟨rfl, hb⟩
      rw [CW.out]
      have hs := hb.size
      (try simp only [World.size_alloc] at hs)
      clear cYf0 cYf1 lYf
      replace Yf := lay ((Yf.out).mono hb)
      replace XG := lay ((XG.out).mono hb)
      replace P0 := lay ((P0.out).below hb)
      replace P1 := lay ((P1.out).below hb)
      replace HB := lay (chn HB.out hb (by (try simp only [World.size_alloc]); omega))
      have hzv6 : w.heap.size ≤ v6.heap.size := HB.out.size
      clear hb
      have cYf0 := Yf.out.c 0 rfl
      have cYf1 := Yf.out.c 1 rfl
      have lYf := Yf.out.lt
      go_wp2_with (fail)
      refine (svc O3.out (XG.out) HK2.out hm7).mono ?_
      rintro ee v7 ⟨rfl, hb⟩
      have hs := hb.size
      (try simp only [World.size_alloc] at hs)
      clear cYf0 cYf1 lYf
      replace Yf := lay ((Yf.out).mono hb)
      replace XG := lay ((XG.out).mono hb)
      replace P0 := lay ((P0.out).below hb)
      replace P1 := lay ((P1.out).below hb)
      replace HB := lay (chn HB.out hb (by (try simp only [World.size_alloc]); omega))
      have hzv7 : w.heap.size ≤ v7.heap.size := HB.out.size
      clear hb
      clear Yf XG
      go_wp2_with (fail)
      refine (draw_map P0.out).mono ?_
      rintro ee u1 ⟨n3, m3, B3, C3, cq3, cr3, zs3, ts, rfl, h8, n1, n3b, nm1, nm2, hts, hRB3, hRC3, hp3, hp4, hb⟩
      obtain ⟨L3, hL3⟩ : ∃ L, zs3.length = L := ⟨_, rfl⟩
      rw [hL3] at h8 hp3 ⊢
      obtain ⟨M3, hM3⟩ : ∃ L, ts.length = L := ⟨_, rfl⟩
      rw [hM3] at hts hp4 ⊢
      obtain ⟨h, rfl⟩ : ∃ h, C3 = some ⟨h, 0, none⟩ := by rcases hp4.1 with ⟨_, h9, _⟩ | h9; (· omega); exact h9
      have hs := hb.size
      (try simp only [World.size_alloc] at hs)
      replace P0 := lay ((P0.out).below hb)
      replace P1 := lay ((P1.out).below hb)
      replace HB := lay (chn HB.out hb (by (try simp only [World.size_alloc]); omega))
      have hzu1 : w.heap.size ≤ u1.heap.size := HB.out.size
      clear hb
      have XH := lay hRB3
      have XI := lay hRC3
      have PH := lay hp3
      have PI := lay hp4
      have HL3 := lay hL3
      have HM3 := lay hM3
      clear hRB3 hRC3 hp3 hp4 hL3 hM3
      obtain ⟨s, hs9⟩ : ∃ s, mapB n3 m3 L3 zs3 ts = s := ⟨_, rfl⟩
      obtain ⟨q3, hq3⟩ : ∃ q, q = if s then m3 else 0 := ⟨_, rfl⟩
      obtain ⟨Z3, hZ3⟩ : ∃ Z, Z = if s then zs3.map (mapG ts) else [] := ⟨_, rfl⟩
      have hz8 : Z3.length ≤ 8 := by rw [hZ3]; exact map_len HL3.out h8 _ s
      obtain ⟨K3, hK3⟩ : ∃ K, Z3.length = K := ⟨_, rfl⟩
      rw [hK3] at hz8
      have HS := lay hs9
      have HQ3 := lay hq3
      have HZ3 := lay hZ3
      have HK3 := lay hK3
      clear hs9 hq3 hZ3 hK3
      go_wp2_with (fail)
      refine (iMapA ((XH.out).al _) PH.out ((XI.out).al _) HL3.out HM3.out PI.out h8 hts (by omega) (by omega) (by omega) HS.out HQ3.out HZ3.out).mono ?_
      rintro ee u2 ⟨D3, cd3, rfl, hRD3, hb⟩
      rw [HK3.out]
      have hs := hb.size
      (try simp only [World.size_alloc] at hs)
      have hs0 : u1.heap.size + 1 ≤ u2.heap.size := by omega
      have Yg := lay (((Bb.new (W := _) (b := u1.heap.size) (t := 42) (cs := #[.int .i64 n3, .slice B3 L3 cq3]) (by first | rfl | (simp; done)))).mono hb)
      replace XH := lay (((XH.out).al _).mono hb)
      replace XI := lay (((XI.out).al _).mono hb)
      replace P0 := lay (((P0.out).alloc _).below hb)
      replace P1 := lay (((P1.out).alloc _).below hb)
      replace HB := lay (chn (HB.out.alloc (by (try simp only [World.size_alloc]); omega) _) hb (by (try simp only [World.size_alloc]); omega))
      have hzu2 : w.heap.size ≤ u2.heap.size := HB.out.size
      clear hb
      have XJ := lay hRD3
      clear hRD3
      have cYg0 := Yg.out.c 0 rfl
      have cYg1 := Yg.out.c 1 rfl
      have lYg := Yg.out.lt
      go_wp2_with (fail)
      refine (sMapA ((XH.out).al _) PH.out ((XI.out).al _) HL3.out HM3.out PI.out h8 hts (by omega) (by omega) (by omega) HS.out HQ3.out HZ3.out).mono ?_
      rintro ee u3 ⟨E3, ce3, rfl, hRE3, hb⟩
      rw [HK3.out]
      have hs := hb.size
      (try simp only [World.size_alloc] at hs)
      have hs0 : u2.heap.size + 1 ≤ u3.heap.size := by omega
      clear cYg0 cYg1 lYg
      replace Yg := lay (((Yg.out).alloc _).mono hb)
      have Yh := lay (((Bb.new (W := _) (b := u2.heap.size) (t := 42) (cs := #[.int .i64 q3, .slice D3 K3 cd3]) (by first | rfl | (simp; done)))).mono hb)
      replace XH := lay (((XH.out).al _).mono hb)
      replace XI := lay (((XI.out).al _).mono hb)
      replace XJ := lay (((XJ.out).al _).mono hb)
      replace P0 := lay (((P0.out).alloc _).below hb)
      replace P1 := lay (((P1.out).alloc _).below hb)
      replace HB := lay (chn (HB.out.alloc (by (try simp only [World.size_alloc]); omega) _) hb (by (try simp only [World.size_alloc]); omega))
      have hzu3 : w.heap.size ≤ u3.heap.size := HB.out.size
      clear hb
      have XK := lay hRE3
      clear hRE3
      clear XH XI Yg
      have cYh0 := Yh.out.c 0 rfl
      have cYh1 := Yh.out.c 1 rfl
      have lYh := Yh.out.lt
      go_wp2_with (fail)
      refine (eqc_s (t := true) (Iff.intro (fun _ => ⟨rfl, rfl⟩) (fun _ => rfl)) ((XJ.out).al _) ((XK.out).al _) HK3.out HK3.out (by omega) (by omega)).mono ?_
      rintro ee u4 ⟨rfl, hb⟩
      have hs := hb.size
      (try simp only [World.size_alloc] at hs)
      have hs0 : u3.heap.size + 1 ≤ u4.heap.size := by omega
      clear cYh0 cYh1 lYh
      replace Yh := lay (((Yh.out).alloc _).mono hb)
      have Yi := lay (((Bb.new (W := _) (b := u3.heap.size) (t := 42) (cs := #[.int .i64 q3, .slice E3 K3 ce3]) (by first | rfl | (simp; done)))).mono hb)
      replace XJ := lay (((XJ.out).al _).mono hb)
      replace XK := lay (((XK.out).al _).mono hb)
      replace P0 := lay (((P0.out).alloc _).below hb)
      replace P1 := lay (((P1.out).alloc _).below hb)
      replace HB := lay (chn (HB.out.alloc (by (try simp only [World.size_alloc]); omega) _) hb (by (try simp only [World.size_alloc]); omega))
      have hzu4 : w.heap.size ≤ u4.heap.size := HB.out.size
      clear hb
      go_wp2_with (fail)
      go_ret
      exact ⟨rfl, HB.out⟩
  · clear Ya Yb Yc XB XC XD HT HQ HZ
    go_wp2_with (fail)
    refine (draw_inverse P1.out).mono ?_
    rintro ee v1 ⟨n2, B2, cq2, zs, rfl, h59, hRB2, hb⟩
    obtain ⟨L2, hL2⟩ : ∃ L, zs.length = L := ⟨_, rfl⟩
    rw [hL2] at h59 ⊢
    have hs := hb.size
    (try simp only [World.size_alloc] at hs)
    replace P0 := lay ((P0.out).below hb)
    replace P1 := lay ((P1.out).below hb)
    replace HB := lay (chn HB.out hb (by (try simp only [World.size_alloc]); omega))
    have hzv1 : w.heap.size ≤ v1.heap.size := HB.out.size
    clear hb
    have XF := lay hRB2
    have HL2 := lay hL2
    clear hRB2 hL2
    obtain ⟨u, hu⟩ : ∃ u, invB n2 L2 zs = u := ⟨_, rfl⟩
    obtain ⟨q2, hq2⟩ : ∃ q, q = if u then n2 else 0 := ⟨_, rfl⟩
    obtain ⟨Z2, hZ2⟩ : ∃ Z, Z = if u then invL zs else [] := ⟨_, rfl⟩
    obtain ⟨K2, hK2⟩ : ∃ K, Z2.length = K := ⟨_, rfl⟩
    have HU := lay hu
    have HQ2 := lay hq2
    have HZ2 := lay hZ2
    have HK2 := lay hK2
    clear hu hq2 hZ2 hK2
    go_wp2_with (fail)
    refine (iInv ((XF.out).al _) HL2.out h59 HU.out HQ2.out HZ2.out).mono ?_
    rintro ee v2 ⟨D2, cd2, rfl, hRD2, hb⟩
    rw [HK2.out]
    have hs := hb.size
    (try simp only [World.size_alloc] at hs)
    have hs0 : v1.heap.size + 1 ≤ v2.heap.size := by omega
    have Ye := lay (((Bb.new (W := _) (b := v1.heap.size) (t := 42) (cs := #[.int .i64 n2, .slice B2 L2 cq2]) (by first | rfl | (simp; done)))).mono hb)
    replace XF := lay (((XF.out).al _).mono hb)
    replace P0 := lay (((P0.out).alloc _).below hb)
    replace P1 := lay (((P1.out).alloc _).below hb)
    replace HB := lay (chn (HB.out.alloc (by (try simp only [World.size_alloc]); omega) _) hb (by (try simp only [World.size_alloc]); omega))
    have hzv2 : w.heap.size ≤ v2.heap.size := HB.out.size
    clear hb
    have XG := lay hRD2
    clear hRD2
    cases u
    · skip
      have cYe0 := Ye.out.c 0 rfl
      have cYe1 := Ye.out.c 1 rfl
      have lYe := Ye.out.lt
      go_wp2_with (fail)
      refine (draw_map ((P0.out).alloc _)).mono ?_
      rintro ee u1 ⟨n3, m3, B3, C3, cq3, cr3, zs3, ts, rfl, h8, n1, n3b, nm1, nm2, hts, hRB3, hRC3, hp3, hp4, hb⟩
      obtain ⟨L3, hL3⟩ : ∃ L, zs3.length = L := ⟨_, rfl⟩
      rw [hL3] at h8 hp3 ⊢
      obtain ⟨M3, hM3⟩ : ∃ L, ts.length = L := ⟨_, rfl⟩
      rw [hM3] at hts hp4 ⊢
      obtain ⟨h, rfl⟩ : ∃ h, C3 = some ⟨h, 0, none⟩ := by rcases hp4.1 with ⟨_, h9, _⟩ | h9; (· omega); exact h9
      have hs := hb.size
      (try simp only [World.size_alloc] at hs)
      have hs0 : v2.heap.size + 1 ≤ u1.heap.size := by omega
      clear cYe0 cYe1 lYe
      replace Ye := lay (((Ye.out).alloc _).mono hb)
      have Yf := lay (((Bb.new (W := _) (b := v2.heap.size) (t := 42) (cs := #[.int .i64 q2, .slice D2 K2 cd2]) (by first | rfl | (simp; done)))).mono hb)
      replace XF := lay (((XF.out).al _).mono hb)
      replace XG := lay (((XG.out).al _).mono hb)
      replace P0 := lay (((P0.out).alloc _).below hb)
      replace P1 := lay (((P1.out).alloc _).below hb)
      replace HB := lay (chn (HB.out.alloc (by (try simp only [World.size_alloc]); omega) _) hb (by (try simp only [World.size_alloc]); omega))
      have hzu1 : w.heap.size ≤ u1.heap.size := HB.out.size
      clear hb
      clear Ye
      clear Yf
      clear XF
      clear XG
      have XH := lay hRB3
      have XI := lay hRC3
      have PH := lay hp3
      have PI := lay hp4
      have HL3 := lay hL3
      have HM3 := lay hM3
      clear hRB3 hRC3 hp3 hp4 hL3 hM3
      obtain ⟨s, hs9⟩ : ∃ s, mapB n3 m3 L3 zs3 ts = s := ⟨_, rfl⟩
      obtain ⟨q3, hq3⟩ : ∃ q, q = if s then m3 else 0 := ⟨_, rfl⟩
      obtain ⟨Z3, hZ3⟩ : ∃ Z, Z = if s then zs3.map (mapG ts) else [] := ⟨_, rfl⟩
      have hz8 : Z3.length ≤ 8 := by rw [hZ3]; exact map_len HL3.out h8 _ s
      obtain ⟨K3, hK3⟩ : ∃ K, Z3.length = K := ⟨_, rfl⟩
      rw [hK3] at hz8
      have HS := lay hs9
      have HQ3 := lay hq3
      have HZ3 := lay hZ3
      have HK3 := lay hK3
      clear hs9 hq3 hZ3 hK3
      go_wp2_with (fail)
      refine (iMapA ((XH.out).al _) PH.out ((XI.out).al _) HL3.out HM3.out PI.out h8 hts (by omega) (by omega) (by omega) HS.out HQ3.out HZ3.out).mono ?_
      rintro ee u2 ⟨D3, cd3, rfl, hRD3, hb⟩
      rw [HK3.out]
      have hs := hb.size
      (try simp only [World.size_alloc] at hs)
      have hs0 : u1.heap.size + 1 ≤ u2.heap.size := by omega
      have Yg := lay (((Bb.new (W := _) (b := u1.heap.size) (t := 42) (cs := #[.int .i64 n3, .slice B3 L3 cq3]) (by first | rfl | (simp; done)))).mono hb)
      replace XH := lay (((XH.out).al _).mono hb)
      replace XI := lay (((XI.out).al _).mono hb)
      replace P0 := lay (((P0.out).alloc _).below hb)
      replace P1 := lay (((P1.out).alloc _).below hb)
      replace HB := lay (chn (HB.out.alloc (by (try simp only [World.size_alloc]); omega) _) hb (by (try simp only [World.size_alloc]); omega))
      have hzu2 : w.heap.size ≤ u2.heap.size := HB.out.size
      clear hb
      have XJ := lay hRD3
      clear hRD3
      have cYg0 := Yg.out.c 0 rfl
      have cYg1 := Yg.out.c 1 rfl
      have lYg := Yg.out.lt
      go_wp2_with (fail)
      refine (sMapA ((XH.out).al _) PH.out ((XI.out).al _) HL3.out HM3.out PI.out h8 hts (by omega) (by omega) (by omega) HS.out HQ3.out HZ3.out).mono ?_
      rintro ee u3 ⟨E3, ce3, rfl, hRE3, hb⟩
      rw [HK3.out]
      have hs := hb.size
      (try simp only [World.size_alloc] at hs)
      have hs0 : u2.heap.size + 1 ≤ u3.heap.size := by omega
      clear cYg0 cYg1 lYg
      replace Yg := lay (((Yg.out).alloc _).mono hb)
      have Yh := lay (((Bb.new (W := _) (b := u2.heap.size) (t := 42) (cs := #[.int .i64 q3, .slice D3 K3 cd3]) (by first | rfl | (simp; done)))).mono hb)
      replace XH := lay (((XH.out).al _).mono hb)
      replace XI := lay (((XI.out).al _).mono hb)
      replace XJ := lay (((XJ.out).al _).mono hb)
      replace P0 := lay (((P0.out).alloc _).below hb)
      replace P1 := lay (((P1.out).alloc _).below hb)
      replace HB := lay (chn (HB.out.alloc (by (try simp only [World.size_alloc]); omega) _) hb (by (try simp only [World.size_alloc]); omega))
      have hzu3 : w.heap.size ≤ u3.heap.size := HB.out.size
      clear hb
      have XK := lay hRE3
      clear hRE3
      clear XH XI Yg
      have cYh0 := Yh.out.c 0 rfl
      have cYh1 := Yh.out.c 1 rfl
      have lYh := Yh.out.lt
      go_wp2_with (fail)
      refine (eqc_s (t := true) (Iff.intro (fun _ => ⟨rfl, rfl⟩) (fun _ => rfl)) ((XJ.out).al _) ((XK.out).al _) HK3.out HK3.out (by omega) (by omega)).mono ?_
      rintro ee u4 ⟨rfl, hb⟩
      have hs := hb.size
      (try simp only [World.size_alloc] at hs)
      have hs0 : u3.heap.size + 1 ≤ u4.heap.size := by omega
      clear cYh0 cYh1 lYh
      replace Yh := lay (((Yh.out).alloc _).mono hb)
      have Yi := lay (((Bb.new (W := _) (b := u3.heap.size) (t := 42) (cs := #[.int .i64 q3, .slice E3 K3 ce3]) (by first | rfl | (simp; done)))).mono hb)
      replace XJ := lay (((XJ.out).al _).mono hb)
      replace XK := lay (((XK.out).al _).mono hb)
      replace P0 := lay (((P0.out).alloc _).below hb)
      replace P1 := lay (((P1.out).alloc _).below hb)
      replace HB := lay (chn (HB.out.alloc (by (try simp only [World.size_alloc]); omega) _) hb (by (try simp only [World.size_alloc]); omega))
      have hzu4 : w.heap.size ≤ u4.heap.size := HB.out.size
      clear hb
      go_wp2_with (fail)
      go_ret
      exact ⟨rfl, HB.out⟩
    · have HV := inv_len HU.out
      obtain ⟨o1, o2⟩ := HV
      have hq : q2 = n2 := HQ2.out
      have hZ : Z2 = invL zs := HZ2.out
      subst hq hZ
      have k400 : K2 ≤ 400 := by have := HK2.out; omega
      have o3 : okC q2 K2 (invL zs) = true := inv_ok o1 k400
      have og : zs.all (gB q2) = true := by unfold okC at o1; rw [Bool.and_eq_true] at o1; exact o1.2
      have e1 := inv_isT og
      have e2 := inv_isTwo og
      obtain ⟨cx, hcx⟩ : ∃ c, zs.countP isT = c := ⟨_, rfl⟩
      obtain ⟨cy, hcy⟩ : ∃ c, zs.countP isTwo = c := ⟨_, rfl⟩
      rw [hcx] at e1
      rw [hcy] at e2
      have O1 := lay o1
      have O3 := lay o3
      have CX := lay hcx
      have CY := lay hcy
      have CZ := lay e1
      have CW := lay e2
      clear o1 o2 o3 og hcx hcy e1 e2 HU HQ2 HZ2
      have hm9 : (L2 : Nat) ≤ maxLen := by unfold maxLen; omega
      have hm7 : (K2 : Nat) ≤ maxLen := by unfold maxLen; omega
      have cYe0 := Ye.out.c 0 rfl
      have cYe1 := Ye.out.c 1 rfl
      have lYe := Ye.out.lt
      go_wp2_with (fail)
      refine (iCountT_t ((XF.out).al _) HL2.out hm9 O1.out).mono ?_
      rintro ee v3 ⟨rfl, hb⟩
      rw [CX.out]
      have hs := hb.size
      (try simp only [World.size_alloc] at hs)
      have hs0 : v2.heap.size + 1 ≤ v3.heap.size := by omega
      clear cYe0 cYe1 lYe
      replace Ye := lay (((Ye.out).alloc _).mono hb)
      have Yf := lay (((Bb.new (W := _) (b := v2.heap.size) (t := 42) (cs := #[.int .i64 q2, .slice D2 K2 cd2]) (by first | rfl | (simp; done)))).mono hb)
      replace XF := lay (((XF.out).al _).mono hb)
      replace XG := lay (((XG.out).al _).mono hb)
      replace P0 := lay (((P0.out).alloc _).below hb)
      replace P1 := lay (((P1.out).alloc _).below hb)
      replace HB := lay (chn (HB.out.alloc (by (try simp only [World.size_alloc]); omega) _) hb (by (try simp only [World.size_alloc]); omega))
      have hzv3 : w.heap.size ≤ v3.heap.size := HB.out.size
      clear hb
      have cYe0 := Ye.out.c 0 rfl
      have cYe1 := Ye.out.c 1 rfl
      have lYe := Ye.out.lt
      have cYf0 := Yf.out.c 0 rfl
      have cYf1 := Yf.out.c 1 rfl
      have lYf := Yf.out.lt
      go_wp2_with (fail)
      refine (iCountT_t (XG.out) HK2.out hm7 O3.out).mono ?_
      rintro ee v4 ⟨rfl, hb⟩
      rw [CZ.out]
      have hs := hb.size
      (try simp only [World.size_alloc] at hs)
      clear cYe0 cYe1 lYe
      replace Ye := lay ((Ye.out).mono hb)
      clear cYf0 cYf1 lYf
      replace Yf := lay ((Yf.out).mono hb)
      replace XF := lay ((XF.out).mono hb)
      replace XG := lay ((XG.out).mono hb)
      replace P0 := lay ((P0.out).below hb)
      replace P1 := lay ((P1.out).below hb)
      replace HB := lay (chn HB.out hb (by (try simp only [World.size_alloc]); omega))
      have hzv4 : w.heap.size ≤ v4.heap.size := HB.out.size
      clear hb
      have cYe0 := Ye.out.c 0 rfl
      have cYe1 := Ye.out.c 1 rfl
      have lYe := Ye.out.lt
      have cYf0 := Yf.out.c 0 rfl
      have cYf1 := Yf.out.c 1 rfl
      have lYf := Yf.out.lt
      go_wp2_with (fail)
      refine (iCountTwo_t (XF.out) HL2.out hm9 O1.out).mono ?_
      rintro ee v5 ⟨rfl, hb⟩
      rw [CY.out]
      have hs := hb.size
      (try simp only [World.size_alloc] at hs)
      clear cYe0 cYe1 lYe
      replace Ye := lay ((Ye.out).mono hb)
      clear cYf0 cYf1 lYf
      replace Yf := lay ((Yf.out).mono hb)
      replace XF := lay ((XF.out).mono hb)
      replace XG := lay ((XG.out).mono hb)
      replace P0 := lay ((P0.out).below hb)
      replace P1 := lay ((P1.out).below hb)
      replace HB := lay (chn HB.out hb (by (try simp only [World.size_alloc]); omega))
      have hzv5 : w.heap.size ≤ v5.heap.size := HB.out.size
      clear hb
      clear Ye XF
      have cYf0 := Yf.out.c 0 rfl
      have cYf1 := Yf.out.c 1 rfl
      have lYf := Yf.out.lt
      go_wp2_with (fail)
      refine (iCountTwo_t (XG.out) HK2.out hm7 O3.out).mono ?_
      rintro ee v6 ⟨rfl, hb⟩
      rw [CW.out]
      have hs := hb.size
      (try simp only [World.size_alloc] at hs)
      clear cYf0 cYf1 lYf
      replace Yf := lay ((Yf.out).mono hb)
      replace XG := lay ((XG.out).mono hb)
      replace P0 := lay ((P0.out).below hb)
      replace P1 := lay ((P1.out).below hb)
      replace HB := lay (chn HB.out hb (by (try simp only [World.size_alloc]); omega))
      have hzv6 : w.heap.size ≤ v6.heap.size := HB.out.size
      clear hb
      have cYf0 := Yf.out.c 0 rfl
      have cYf1 := Yf.out.c 1 rfl
      have lYf := Yf.out.lt
      go_wp2_with (fail)
      refine (svc O3.out (XG.out) HK2.out hm7).mono ?_
      rintro ee v7 ⟨rfl, hb⟩
      have hs := hb.size
      (try simp only [World.size_alloc] at hs)
      clear cYf0 cYf1 lYf
      replace Yf := lay ((Yf.out).mono hb)
      replace XG := lay ((XG.out).mono hb)
      replace P0 := lay ((P0.out).below hb)
      replace P1 := lay ((P1.out).below hb)
      replace HB := lay (chn HB.out hb (by (try simp only [World.size_alloc]); omega))
      have hzv7 : w.heap.size ≤ v7.heap.size := HB.out.size
      clear hb
      clear Yf XG
      go_wp2_with (fail)
      refine (draw_map P0.out).mono ?_
      rintro ee u1 ⟨n3, m3, B3, C3, cq3, cr3, zs3, ts, rfl, h8, n1, n3b, nm1, nm2, hts, hRB3, hRC3, hp3, hp4, hb⟩
      obtain ⟨L3, hL3⟩ : ∃ L, zs3.length = L := ⟨_, rfl⟩
      rw [hL3] at h8 hp3 ⊢
      obtain ⟨M3, hM3⟩ : ∃ L, ts.length = L := ⟨_, rfl⟩
      rw [hM3] at hts hp4 ⊢
      obtain ⟨h, rfl⟩ : ∃ h, C3 = some ⟨h, 0, none⟩ := by rcases hp4.1 with ⟨_, h9, _⟩ | h9; (· omega); exact h9
      have hs := hb.size
      (try simp only [World.size_alloc] at hs)
      replace P0 := lay ((P0.out).below hb)
      replace P1 := lay ((P1.out).below hb)
      replace HB := lay (chn HB.out hb (by (try simp only [World.size_alloc]); omega))
      have hzu1 : w.heap.size ≤ u1.heap.size := HB.out.size
      clear hb
      have XH := lay hRB3
      have XI := lay hRC3
      have PH := lay hp3
      have PI := lay hp4
      have HL3 := lay hL3
      have HM3 := lay hM3
      clear hRB3 hRC3 hp3 hp4 hL3 hM3
      obtain ⟨s, hs9⟩ : ∃ s, mapB n3 m3 L3 zs3 ts = s := ⟨_, rfl⟩
      obtain ⟨q3, hq3⟩ : ∃ q, q = if s then m3 else 0 := ⟨_, rfl⟩
      obtain ⟨Z3, hZ3⟩ : ∃ Z, Z = if s then zs3.map (mapG ts) else [] := ⟨_, rfl⟩
      have hz8 : Z3.length ≤ 8 := by rw [hZ3]; exact map_len HL3.out h8 _ s
      obtain ⟨K3, hK3⟩ : ∃ K, Z3.length = K := ⟨_, rfl⟩
      rw [hK3] at hz8
      have HS := lay hs9
      have HQ3 := lay hq3
      have HZ3 := lay hZ3
      have HK3 := lay hK3
      clear hs9 hq3 hZ3 hK3
      go_wp2_with (fail)
      refine (iMapA ((XH.out).al _) PH.out ((XI.out).al _) HL3.out HM3.out PI.out h8 hts (by omega) (by omega) (by omega) HS.out HQ3.out HZ3.out).mono ?_
      rintro ee u2 ⟨D3, cd3, rfl, hRD3, hb⟩
      rw [HK3.out]
      have hs := hb.size
      (try simp only [World.size_alloc] at hs)
      have hs0 : u1.heap.size + 1 ≤ u2.heap.size := by omega
      have Yg := lay (((Bb.new (W := _) (b := u1.heap.size) (t := 42) (cs := #[.int .i64 n3, .slice B3 L3 cq3]) (by first | rfl | (simp; done)))).mono hb)
      replace XH := lay (((XH.out).al _).mono hb)
      replace XI := lay (((XI.out).al _).mono hb)
      replace P0 := lay (((P0.out).alloc _).below hb)
      replace P1 := lay (((P1.out).alloc _).below hb)
      replace HB := lay (chn (HB.out.alloc (by (try simp only [World.size_alloc]); omega) _) hb (by (try simp only [World.size_alloc]); omega))
      have hzu2 : w.heap.size ≤ u2.heap.size := HB.out.size
      clear hb
      have XJ := lay hRD3
      clear hRD3
      have cYg0 := Yg.out.c 0 rfl
      have cYg1 := Yg.out.c 1 rfl
      have lYg := Yg.out.lt
      go_wp2_with (fail)
      refine (sMapA ((XH.out).al _) PH.out ((XI.out).al _) HL3.out HM3.out PI.out h8 hts (by omega) (by omega) (by omega) HS.out HQ3.out HZ3.out).mono ?_
      rintro ee u3 ⟨E3, ce3, rfl, hRE3, hb⟩
      rw [HK3.out]
      have hs := hb.size
      (try simp only [World.size_alloc] at hs)
      have hs0 : u2.heap.size + 1 ≤ u3.heap.size := by omega
      clear cYg0 cYg1 lYg
      replace Yg := lay (((Yg.out).alloc _).mono hb)
      have Yh := lay (((Bb.new (W := _) (b := u2.heap.size) (t := 42) (cs := #[.int .i64 q3, .slice D3 K3 cd3]) (by first | rfl | (simp; done)))).mono hb)
      replace XH := lay (((XH.out).al _).mono hb)
      replace XI := lay (((XI.out).al _).mono hb)
      replace XJ := lay (((XJ.out).al _).mono hb)
      replace P0 := lay (((P0.out).alloc _).below hb)
      replace P1 := lay (((P1.out).alloc _).below hb)
      replace HB := lay (chn (HB.out.alloc (by (try simp only [World.size_alloc]); omega) _) hb (by (try simp only [World.size_alloc]); omega))
      have hzu3 : w.heap.size ≤ u3.heap.size := HB.out.size
      clear hb
      have XK := lay hRE3
      clear hRE3
      clear XH XI Yg
      have cYh0 := Yh.out.c 0 rfl
      have cYh1 := Yh.out.c 1 rfl
      have lYh := Yh.out.lt
      go_wp2_with (fail)
      refine (eqc_s (t := true) (Iff.intro (fun _ => ⟨rfl, rfl⟩) (fun _ => rfl)) ((XJ.out).al _) ((XK.out).al _) HK3.out HK3.out (by omega) (by omega)).mono ?_
      rintro ee u4 ⟨rfl, hb⟩
      have hs := hb.size
      (try simp only [World.size_alloc] at hs)
      have hs0 : u3.heap.size + 1 ≤ u4.heap.size := by omega
      clear cYh0 cYh1 lYh
      replace Yh := lay (((Yh.out).alloc _).mono hb)
      have Yi := lay (((Bb.new (W := _) (b := u3.heap.size) (t := 42) (cs := #[.int .i64 q3, .slice E3 K3 ce3]) (by first | rfl | (simp; done)))).mono hb)
      replace XJ := lay (((XJ.out).al _).mono hb)
      replace XK := lay (((XK.out).al _).mono hb)
      replace P0 := lay (((P0.out).alloc _).below hb)
      replace P1 := lay (((P1.out).alloc _).below hb)
      replace HB := lay (chn (HB.out.alloc (by (try simp only [World.size_alloc]); omega) _) hb (by (try simp only [World.size_alloc]); omega))
      have hzu4 : w.heap.size ≤ u4.heap.size := HB.out.size
      clear hb
      go_wp2_with (fail)
      go_ret
      exact ⟨rfl, HB.out⟩
end Go.Proofs.Ytdbnjoeanoiifaa
