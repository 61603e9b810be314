/-
  The walk of FrameBack.
-/
import Derived.Test.YtldhmpngehlnhaaLaws7A
import Derived.Test.YtldhmpngehlnhaaFrC
import Derived.Test.YtldhmpngehlnhaaFrS
import Derived.Lib.MinMax
namespace Go.Proofs.Ytldhmpngehlnhaa
open Go.RowKit
set_option maxRecDepth 100000

theorem short_any (A : Option Addr) (n cap : Nat) (w : World) (hc : n ≤ cap) :
    Calls Try.prog 13 #[.slice A n cap] w fun e w' => e = .returned (.slice A (min n 2100) cap) ∧ w = w' := by
  obtain ⟨k, hk, hk2⟩ : ∃ k : Nat, min (n : Int) 2100 = k ∧ k = min n 2100 := ⟨min n 2100, by omega, rfl⟩
  have hkc : k ≤ cap := by omega
  rw [← hk2]
  clear hk2
  go_enter Try.func13, Try.ntmps13
  go_wp2
  go_ret
  exact ⟨rfl, rfl⟩

set_option maxHeartbeats 4000000 in
theorem law_back (f : Fr) (A B : Option Addr) (n m cap cap2 : Nat) (xs : List Nat) (w : World) (h : EvSl w A n cap f.es) (hs : ∀ e ∈ f.es, e.key.size ≤ 140737488351232 ∧ e.v.size ≤ 140737488351232) (h' : Slc w B m cap2 xs) :
    Calls Try.prog 4 #[f.val (.slice A n cap), .slice B m cap2] w fun e w' => e = .returned (.bool true) ∧ Below w.heap.size w w' := by
  have C0 := Lib.hid (fun w => shown_any w)
  have CF := Lib.hid (fun w h => fit7_any f A n cap w h hs)
  have CP := Lib.hid (fun f A n cap w h => frput_any f A n cap w h)
  have CT := Lib.hid (fun A n cap xs w h => frtake_any A n cap xs w h)
  have CE := Lib.hid (fun A n cap xs w h hn => seal_any A n cap xs w h hn)
  have CS := Lib.hid (fun f g A B n m cap cap2 w ha hb => same7_any f g A B n m cap cap2 w ha hb)
  have CH := Lib.hid (fun w => short_any B m cap2 w h'.2.1)
  have KA := Lib.hid (Blk.new w (f.cells (.slice A n cap)) 26)
  have U0 := Lib.hid (show Lex.Up w (w.alloc (.cells (f.cells (.slice A n cap)) 26)) from up_blk (Lex.Up.refl w))
  have SA := Lib.hid (fun w' (hu : Lex.Up w w') => EvSl.up h hu)
  have SB := Lib.hid (fun w' (hu : Lex.Up w w') => (h'.take_ (u := min m 2100) (by omega)).below hu)
  clear h hs h'
  unfold Fr.val at *
  go_enter Try.func4, Try.ntmps4
  go_wp2_with fail
  refine (C0.out _).mono ?_
  rintro e w1 ⟨rfl, hb1⟩
  have KA1 := Lib.hid (KA.out.up hb1); have U1 := Lib.hid (U0.out.trans hb1)
  clear KA U0 hb1 C0
  obtain ⟨k0, k1, k2, k3, k4, k5, k6, k7, k8⟩ := KA1.out.fr
  go_wp2_with fail
  clear k0 k1 k2 k3 k4 k5 k6 k7 k8
  refine (CF.out _ (SA.out _ U1.out)).mono ?_
  rintro e w2 ⟨x, A9, cap9, hx, rfl, hs2, hb2⟩
  have hua := up_blk (cs := x.cells (.slice A9 x.es.length cap9)) (t := 26) hb2
  have KX := Lib.hid (Blk.new w2 (x.cells (.slice A9 x.es.length cap9)) 26)
  have SX := Lib.hid (hs2.up (up_blk (cs := x.cells (.slice A9 x.es.length cap9)) (t := 26) (Lex.Up.refl w2)))
  have U2 := Lib.hid (U1.out.trans hua)
  have GX := Lib.hid hx
  clear hx hs2 hb2 hua KA1 U1 CF SA
  simp only [Fr.val]
  go_upto_region 3 with (fail)
  refine wp_named (fun W2 hW => ?_)
  have hW' : W2 = w2.alloc (.cells (x.cells (.slice A9 x.es.length cap9)) 26) := hW
  rw [← hW'] at KX SX U2
  clear hW hW'
  have CX := Lib.hid (CP.out x A9 _ cap9 _ SX.out)
  rw [(Fr.may_iff x).2 GX.out, if_pos rfl, Fr.out_good GX.out] at CX
  have HXT := Lib.hid (Fr.bytes_lt GX.out)
  have HL := Fr.bytes_len GX.out
  obtain ⟨k0, k1, k2, k3, k4, k5, k6, k7, k8⟩ := KX.out.fr
  go_wp2_with fail
  clear k0 k1 k2 k3 k4 k5 k6 k7 k8
  refine CX.out.mono ?_
  rintro e w3 ⟨v3, rfl, hown3, hb3⟩
  obtain ⟨A3, cap3, rfl, hs3⟩ := slc_of_own2 hown3 HXT.out
  have KX3 := Lib.hid (KX.out.up hb3); have SX3 := Lib.hid (SX.out.up hb3); have U3 := Lib.hid (U2.out.trans hb3)
  have P3 := Lib.hid hs3
  clear hown3 hb3 hs3 KX SX U2 CX
  have CZ := Lib.hid (CT.out A3 _ cap3 _ _ P3.out)
  rw [Fr.take_put GX.out] at CZ
  have TM := Lib.hid (Fr.take_more GX.out)
  have TL := Lib.hid (Fr.take_less GX.out)
  have RL := Fr.raw_len GX.out
  have RT := Lib.hid (Fr.raw_lt GX.out)
  have hbl : (Fr.bytes x).length = (Fr.raw x).length + 4 := by unfold Fr.bytes; rw [Cr.sealed_len]
  have hbt : (Fr.bytes x).take (Fr.raw x).length = Fr.raw x := by
    have := Cr.sealed_take (Fr.raw x)
    rw [Cr.sealed_len] at this
    unfold Fr.bytes; simpa using this
  have hbt2 : (Fr.bytes x).take ((Fr.raw x).length - 1) = (Fr.raw x).take ((Fr.raw x).length - 1) := by
    rw [← hbt, List.take_take]
    congr 1
    have : (Fr.raw x).length - 1 ≤ (Fr.raw x).length := by omega
    rw [hbt]; omega
  generalize hrs : Fr.raw x = rs at *
  generalize Fr.bytes x = bs at *
  clear hrs
  obtain ⟨R, hR⟩ : ∃ R, rs.length = R := ⟨_, rfl⟩
  rw [hR] at hbl hbt hbt2 RL TL
  rw [hbl] at HL P3 CZ ⊢
  have HBT := Lib.hid hbt; have HBT2 := Lib.hid hbt2; have HRL := Lib.hid hR
  clear hbt hbt2 hbl hR
  go_wp2_with fail
  refine CZ.out.mono ?_
  rintro e w4 ⟨A4, cap4, rfl, ho4, hb4⟩
  have hua := up_blk (cs := x.cells (.slice A4 x.es.length cap4)) (t := 26) hb4
  have KY := Lib.hid (Blk.new w4 (x.cells (.slice A4 x.es.length cap4)) 26)
  have SY := Lib.hid (ho4.sl_of.2.up (up_blk (cs := x.cells (.slice A4 x.es.length cap4)) (t := 26) (Lex.Up.refl w4)))
  have KX4 := Lib.hid (KX3.out.up hua); have SX4 := Lib.hid (SX3.out.up hua); have U4 := Lib.hid (U3.out.trans hua)
  have P4 := Lib.hid (P3.out.below hua)
  clear ho4 hb4 hua KX3 SX3 U3 P3 CZ
  simp only [Fr.val]
  go_upto_region 5 with (fail)
  refine wp_named (fun W5 hW => ?_)
  have hW' : W5 = w4.alloc (.cells (x.cells (.slice A4 x.es.length cap4)) 26) := hW
  rw [← hW'] at KY SY KX4 SX4 U4 P4
  clear hW hW'
  obtain ⟨c0, c1, c2, c3, c4, c5, c6, c7, c8⟩ := KX4.out.fr
  obtain ⟨d0, d1, d2, d3, d4, d5, d6, d7, d8⟩ := KY.out.fr
  have C1 := Lib.hid (CS.out x x A9 A4 _ _ cap9 cap4 _ SX4.out SY.out)
  rw [decide_eq_true rfl] at C1
  go_wp2_with fail
  clear c0 c1 c2 c3 c4 c5 c6 c7 c8 d0 d1 d2 d3 d4 d5 d6 d7 d8
  refine C1.out.mono ?_
  rintro e w5 ⟨rfl, hb5⟩
  have U5 := Lib.hid (U4.out.trans hb5)
  have P5 := Lib.hid (P4.out.below hb5)
  clear hb5 U4 P4 KX4 SX4 KY SY C1 CS GX
  have t1 : decide (((R + 4 : Nat) : Int) < 5) = false := by simp; omega
  have t2 : decide (2048 < ((R + 4 : Nat) : Int)) = false := by simp; omega
  go_upto_region 8 with (fail)
  have wR : IntKind.i64.wrap ((R : Int) + 4 - 4) = (R : Int) := by rw [IntWalk.i64_in _ ⟨by omega, by omega⟩]; omega
  have wR1 : IntKind.i64.wrap ((R : Int) + 4 - 5) = ((R - 1 : Nat) : Int) := by rw [IntWalk.i64_in _ ⟨by omega, by omega⟩]; omega
  have hRc : R + 4 ≤ cap3 := P5.out.2.1
  have hcm : cap3 ≤ 9223372036854775807 := P5.out.2.2.1
  have hRc1 : (R : Int) ≤ cap3 := by omega
  have hRc2 : ((R - 1 : Nat) : Int) ≤ cap3 := by omega
  have Q5 := Lib.hid (show Slc w5 A3 R cap3 rs by have := P5.out.take_ (u := R) (by omega); rwa [HBT.out] at this)
  have N5 := Lib.hid (show Slc w5 A3 (R - 1) cap3 (rs.take (R - 1)) by have := P5.out.take_ (u := R - 1) (by omega); rwa [HBT2.out] at this)
  have O5 := Lib.hid (World.ownsRow_made (base := w5.heap.size) (e := 5) (size := 1) w5 #[] 0 (Nat.le_refl _) (Nat.zero_le _) rfl)
  have Q6 := Lib.hid (Q5.out.below (up_blk (cs := #[]) (t := 5) (Lex.Up.refl w5)))
  have UA := Lib.hid (up_blk (cs := #[]) (t := 5) (Lex.Up.refl w5))
  clear P5 Q5 HBT HBT2 t1 t2
  go_wp2_with (at_builtin; refine wpList_append_slc rfl _ _ rfl w5.heap.size _ 0 [] rfl O5.out A3 R cap3 rs rfl Q6.out (by omega) (by simp) ?_)
  intro v6 w6 hown6 hg6
  have U6 := Lib.hid (show Lex.Up w5 w6 from Below.grown UA.out hg6 (by simp) (fun k hk => by simp [Value.ownBlock] at hk; omega))
  have O6 := Lib.hid (show w6.ownsRow w5.heap.size 5 1 v6 R (rs.map bv) by simpa using hown6)
  have OB := Lib.hid (own_base O6.out)
  have O7 := Lib.hid (own_up O6.out (up_blk (cs := #[.int .u8 0]) (t := 5) (Lex.Up.refl w6)))
  have Z7 := Lib.hid (slc_new (w := w6.alloc (.cells #[.int .u8 0] 5)) (g := w6.heap.size) (t := 5) (fr := (0, 0)) [0] (heap_alloc_new _ _) (by simp) (by simp))
  have U7 := Lib.hid (up_blk (cs := #[.int .u8 0]) (t := 5) U6.out)
  have ZZ : w5.heap.size ≤ (w6.alloc (.cells #[.int .u8 0] 5)).heap.size := U7.out.size
  clear hown6 hg6 O5 Q6 UA U6 O6
  go_wp2_with (at_builtin; refine wpList_append_slc rfl _ _ rfl w5.heap.size v6 R rs rfl O7.out _ 1 1 [0] rfl Z7.out (by omega) ZZ ?_)
  intro v8 w8 hown8 hg8
  have U8 := Lib.hid (show Lex.Up w5 w8 from Below.grown U7.out hg8 ZZ OB.out)
  have O8 : w8.ownsRow w5.heap.size 5 1 v8 (R + 1) ((rs ++ [0]).map bv) := by simpa using hown8
  obtain ⟨A8, cap8, rfl, hs8⟩ := slc_of_own2 O8 (fun x hx => (List.mem_append.1 hx).elim (RT.out x) (fun h => by rw [List.mem_singleton.1 h]; omega))
  have S8 := Lib.hid hs8
  clear hown8 hg8 O7 Z7 U7 ZZ OB O8 hs8
  have SL9 := Lib.hid (Cr.sealed_lt (l := rs ++ [0]) (fun x hx => (List.mem_append.1 hx).elim (RT.out x) (fun h => by rw [List.mem_singleton.1 h]; omega)))
  go_wp2_with fail
  refine (CE.out A8 _ cap8 _ _ S8.out (by omega)).mono ?_
  rintro e w9 ⟨A10, cap10, rfl, hown9, hb9⟩
  obtain hs9 := slc_of_own hown9 SL9.out
  have U9 := Lib.hid (U8.out.trans hb9)
  have CM := Lib.hid (CT.out A10 _ cap10 _ _ hs9)
  rw [TM.out] at CM
  clear hown9 hb9 hs9 U8 S8 SL9 TM
  generalize Cr.sealed (rs ++ [0]) = ms at *
  generalize ms.length = lm at *
  go_wp2_with fail
  refine CM.out.mono ?_
  rintro e w10 ⟨A11, cap11, rfl, ho10, hb10⟩
  have UM := Lib.hid (up_blk (cs := Fr.zero.cells (.slice A11 Fr.zero.es.length cap11)) (t := 26) (U9.out.trans hb10))
  have NM := Lib.hid (N5.out.below UM.out)
  have UU := Lib.hid (U5.out.trans UM.out)
  clear ho10 hb10 U9 CM N5 UM U5
  simp only [Fr.val]
  go_upto_region 9 with (fail)
  clear wR
  have SL10 := Lib.hid (Cr.sealed_lt (l := rs.take (R - 1)) (fun x hx => RT.out x (List.mem_of_mem_take hx)))
  go_wp2_with fail
  refine (CE.out A3 _ cap3 _ _ NM.out (by omega)).mono ?_
  rintro e w12 ⟨A12, cap12, rfl, hown12, hb12⟩
  have hs12 := slc_of_own hown12 SL10.out
  have CL := Lib.hid (CT.out A12 _ cap12 _ _ hs12)
  rw [TL.out] at CL
  have UV := Lib.hid (UU.out.trans hb12)
  clear hown12 hb12 hs12 SL10 NM UU TL RT
  generalize Cr.sealed (rs.take (R - 1)) = ns at *
  generalize ns.length = ln at *
  go_wp2_with fail
  refine CL.out.mono ?_
  rintro e w13 ⟨A13, cap13, rfl, ho13, hb13⟩
  have UX := Lib.hid (up_blk (cs := Fr.zero.cells (.slice A13 Fr.zero.es.length cap13)) (t := 26) (UV.out.trans hb13))
  clear ho13 hb13 UV CL
  simp only [Fr.val]
  go_upto_region 10 with (fail)
  refine wp_named (fun W14 hW => ?_)
  have hW' : W14 = w13.alloc (.cells (Fr.zero.cells (.slice A13 Fr.zero.es.length cap13)) 26) := hW
  rw [← hW'] at UX
  clear hW hW'
  have SY := Lib.hid (SB.out W14 UX.out)
  generalize xs.take (min m 2100) = ys at *
  have hmm : min m 2100 ≤ 2100 := by omega
  generalize min m 2100 = mm at *
  have YL := Lib.hid (Cr.sealed_lt SY.out.bts)
  go_wp2_with fail
  refine (CH.out _).mono ?_
  rintro e w15 ⟨rfl, rfl⟩
  clear CH SB
  go_wp2_with fail
  refine (CE.out B mm cap2 ys _ SY.out (by omega)).mono ?_
  rintro e w16 ⟨A16, cap16, rfl, hown16, hb16⟩
  have hs16 := slc_of_own hown16 YL.out
  have U16 := Lib.hid (UX.out.trans hb16)
  have S16 := Lib.hid hs16
  have CW := Lib.hid (CT.out A16 _ cap16 _ _ hs16)
  have TO := Lib.hid (fun h => Fr.take_of (xs := Cr.sealed ys) YL.out h)
  clear hown16 hb16 hs16 UX SY CE CT
  generalize Cr.sealed ys = ss at *
  generalize Fr.takeF ss = T at *
  obtain ⟨g, z⟩ := T
  go_wp2_with fail
  refine CW.out.mono ?_
  rintro e w17 ⟨A17, cap17, rfl, ho17, hb17⟩
  have hua := up_blk (cs := g.cells (.slice A17 g.es.length cap17)) (t := 26) hb17
  have KG := Lib.hid (Blk.new w17 (g.cells (.slice A17 g.es.length cap17)) 26)
  have SG := Lib.hid (ho17.sl_of.2.up (up_blk (cs := g.cells (.slice A17 g.es.length cap17)) (t := 26) (Lex.Up.refl w17)))
  have U17 := Lib.hid (U16.out.trans hua)
  have S17 := Lib.hid (S16.out.below hua)
  clear ho17 hb17 hua U16 S16 CW
  simp only [Fr.val]
  go_upto_region 12 with (fail)
  refine wp_named (fun W18 hW => ?_)
  have hW' : W18 = w17.alloc (.cells (g.cells (.slice A17 g.es.length cap17)) 26) := hW
  rw [← hW'] at KG SG U17 S17
  clear hW hW'
  by_cases hz : z = 0
  · subst hz
    obtain ⟨hg, hb⟩ := TO.out rfl
    have CG := Lib.hid (CP.out g A17 _ cap17 _ SG.out)
    rw [(Fr.may_iff g).2 hg, if_pos rfl, Fr.out_good hg, hb] at CG
    clear TO hg hb CP
    obtain ⟨c0, c1, c2, c3, c4, c5, c6, c7, c8⟩ := KG.out.fr
    go_wp2_with fail
    clear c0 c1 c2 c3 c4 c5 c6 c7 c8
    refine CG.out.mono ?_
    rintro e w19 ⟨v19, rfl, hown19, hb19⟩
    obtain ⟨A19, cap19, rfl, hs19⟩ := slc_of_own2 hown19 YL.out
    have p0 := conv_slc hs19
    have p1 := conv_slc (S17.out.below hb19)
    have U19 := Lib.hid (U17.out.trans hb19)
    clear hown19 hb19 hs19 KG SG U17 S17 CG YL
    generalize ss.length = ls at *
    go_wp2
    go_ret
    exact ⟨rfl, U19.out⟩
  · have z0 : ((z : Int) == 0) = false := by simp; omega
    clear TO hz CP KG SG S17 YL
    go_wp2
    go_ret
    exact ⟨rfl, U17.out⟩
end Go.Proofs.Ytldhmpngehlnhaa
