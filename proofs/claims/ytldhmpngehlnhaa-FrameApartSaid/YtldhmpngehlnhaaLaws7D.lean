/-
  The walk of FrameApart.
-/
import Derived.Test.YtldhmpngehlnhaaLaws7A
import Derived.Test.YtldhmpngehlnhaaFrC
import Derived.Test.YtldhmpngehlnhaaFrS
namespace Go.Proofs.Ytldhmpngehlnhaa
open Go.RowKit
set_option maxRecDepth 100000

set_option maxHeartbeats 4000000 in
theorem law_apart (f g : Fr) (A B : Option Addr) (n m cap cap2 : Nat) (w : World) (h : EvSl w A n cap f.es) (hs : ∀ e ∈ f.es, e.key.size ≤ 140737488351232 ∧ e.v.size ≤ 140737488351232)
    (h' : EvSl w B m cap2 g.es) (hs' : ∀ e ∈ g.es, e.key.size ≤ 140737488351232 ∧ e.v.size ≤ 140737488351232) :
    Calls Try.prog 7 #[f.val (.slice A n cap), g.val (.slice B m cap2)] w fun e w' => e = .returned (.bool true) ∧ Below w.heap.size w w' := by
  have C0 := Lib.hid (fun w => shown_any w)
  have CF := Lib.hid (fun w h => fit7_any f A n cap w h hs)
  have CG := Lib.hid (fun w h => fit7_any g B m cap2 w h hs')
  have CP := Lib.hid (fun f A n cap w h => frput_any f A n cap w h)
  have CT := Lib.hid (fun A n cap xs w h => frtake_any A n cap xs w h)
  have CS := Lib.hid (fun f g A B n m cap cap2 w ha hb => same7_any f g A B n m cap cap2 w ha hb)
  have KA := Lib.hid ((Blk.new w (f.cells (.slice A n cap)) 26).alloc (.cells (g.cells (.slice B m cap2)) 26))
  have KB := Lib.hid (Blk.new (w.alloc (.cells (f.cells (.slice A n cap)) 26)) (g.cells (.slice B m cap2)) 26)
  have U0 := Lib.hid (show Lex.Up w ((w.alloc (.cells (f.cells (.slice A n cap)) 26)).alloc (.cells (g.cells (.slice B m cap2)) 26)) from up_blk (up_blk (Lex.Up.refl w)))
  have SA := Lib.hid (fun w' (hu : Lex.Up w w') => EvSl.up h hu)
  have SB := Lib.hid (fun w' (hu : Lex.Up w w') => EvSl.up h' hu)
  clear h hs h' hs'
  simp only [World.size_alloc] at KB
  unfold Fr.val at *
  go_enter Try.func7, Try.ntmps7
  go_wp2_with fail
  refine (C0.out _).mono ?_
  rintro e w1 ⟨rfl, hb1⟩
  have KA1 := Lib.hid (KA.out.up hb1); have KB1 := Lib.hid (KB.out.up hb1); have U1 := Lib.hid (U0.out.trans hb1)
  clear KA KB U0 hb1 C0
  obtain ⟨k0, k1, k2, k3, k4, k5, k6, k7, k8⟩ := KA1.out.fr
  go_wp2_with fail
  clear k0 k1 k2 k3 k4 k5 k6 k7 k8
  refine (CF.out _ (SA.out _ U1.out)).mono ?_
  rintro e w2 ⟨x, A9, cap9, hx, rfl, hs2, hb2⟩
  have hua := up_blk (cs := (x).cells (.slice A9 (x).es.length cap9)) (t := 26) hb2
  have KX := Lib.hid (Blk.new w2 ((x).cells (.slice A9 (x).es.length cap9)) 26)
  have SX := Lib.hid (hs2.up (up_blk (cs := (x).cells (.slice A9 (x).es.length cap9)) (t := 26) (Lex.Up.refl w2)))
  have U2 := Lib.hid (U1.out.trans hua)
  have VX := Lib.hid hua
  have GX := Lib.hid hx
  clear hx hs2 hb2 hua
  simp only [Fr.val]
  have KB2 := Lib.hid (KB1.out.up VX.out)
  clear KA1 KB1 U1 VX CF SA
  go_upto_region 3 with (fail)
  refine wp_named (fun W2 hW => ?_)
  have hW' : W2 = w2.alloc (.cells (x.cells (.slice A9 x.es.length cap9)) 26) := hW
  rw [← hW'] at KX SX U2 KB2
  clear hW hW'
  obtain ⟨k0, k1, k2, k3, k4, k5, k6, k7, k8⟩ := KB2.out.fr
  go_wp2_with fail
  clear k0 k1 k2 k3 k4 k5 k6 k7 k8
  refine (CG.out _ (SB.out _ U2.out)).mono ?_
  rintro e w3 ⟨y, A7, cap7, hx, rfl, hs2, hb2⟩
  have hua := up_blk (cs := (y).cells (.slice A7 (y).es.length cap7)) (t := 26) hb2
  have KY := Lib.hid (Blk.new w3 ((y).cells (.slice A7 (y).es.length cap7)) 26)
  have SY := Lib.hid (hs2.up (up_blk (cs := (y).cells (.slice A7 (y).es.length cap7)) (t := 26) (Lex.Up.refl w3)))
  have U3 := Lib.hid (U2.out.trans hua)
  have VY := Lib.hid hua
  have GY := Lib.hid hx
  clear hx hs2 hb2 hua
  simp only [Fr.val]
  have KX3 := Lib.hid (KX.out.up VY.out)
  have SX3 := Lib.hid (SX.out.up VY.out)
  clear KB2 KX SX U2 VY CG SB
  go_upto_region 4 with (fail)
  refine wp_named (fun W3 hW => ?_)
  have hW' : W3 = w3.alloc (.cells (y.cells (.slice A7 y.es.length cap7)) 26) := hW
  rw [← hW'] at KX3 SX3 U3 KY SY
  clear hW hW'
  have CX := Lib.hid (CP.out x A9 _ cap9 _ SX3.out)
  rw [(Fr.may_iff x).2 GX.out, if_pos rfl, Fr.out_good GX.out] at CX
  have HXT := Lib.hid (Fr.bytes_lt GX.out)
  have HYT := Lib.hid (Fr.bytes_lt GY.out)
  obtain ⟨k0, k1, k2, k3, k4, k5, k6, k7, k8⟩ := KX3.out.fr
  go_wp2_with fail
  clear k0 k1 k2 k3 k4 k5 k6 k7 k8
  refine CX.out.mono ?_
  rintro e w4 ⟨v4, rfl, hown4, hb4⟩
  obtain ⟨A4, cap4, rfl, hs4⟩ := slc_of_own2 hown4 HXT.out
  have KX4 := Lib.hid (KX3.out.up hb4); have SX4 := Lib.hid (SX3.out.up hb4); have KY4 := Lib.hid (KY.out.up hb4); have SY4 := Lib.hid (SY.out.up hb4); have U4 := Lib.hid (U3.out.trans hb4)
  have P4 := Lib.hid hs4
  clear hown4 hb4 hs4 KX3 SX3 KY SY U3 CX
  have CY := Lib.hid (CP.out y A7 _ cap7 _ SY4.out)
  rw [(Fr.may_iff y).2 GY.out, if_pos rfl, Fr.out_good GY.out] at CY
  obtain ⟨k0, k1, k2, k3, k4, k5, k6, k7, k8⟩ := KY4.out.fr
  go_wp2_with fail
  clear k0 k1 k2 k3 k4 k5 k6 k7 k8
  refine CY.out.mono ?_
  rintro e w5 ⟨v5, rfl, hown5, hb5⟩
  obtain ⟨A5, cap5, rfl, hs5⟩ := slc_of_own2 hown5 HYT.out
  have KX5 := Lib.hid (KX4.out.up hb5); have SX5 := Lib.hid (SX4.out.up hb5); have KY5 := Lib.hid (KY4.out.up hb5); have SY5 := Lib.hid (SY4.out.up hb5); have U5 := Lib.hid (U4.out.trans hb5)
  have P5 := Lib.hid (P4.out.below hb5)
  have Q5 := Lib.hid hs5
  clear hown5 hb5 hs5 KX4 SX4 KY4 SY4 U4 CY CP P4
  have CZ := Lib.hid (CT.out A4 _ cap4 _ _ P5.out)
  rw [Fr.take_put GX.out] at CZ
  have HST : ((str (Fr.bytes x)).toList == (str (Fr.bytes y)).toList) = decide (x = y) := by rw [str_eq HXT.out HYT.out]; exact decide_eq_decide.2 (Fr.bytes_apart GX.out GY.out)
  clear GX GY HXT HYT CT
  generalize Fr.bytes x = bx at *
  generalize Fr.bytes y = bz at *
  generalize bx.length = lx at *
  generalize bz.length = ly at *
  go_wp2_with fail
  refine CZ.out.mono ?_
  rintro e w6 ⟨A6, cap6, rfl, ho6, hb6⟩
  have hua := up_blk (cs := x.cells (.slice A6 x.es.length cap6)) (t := 26) hb6
  have KZ := Lib.hid (Blk.new w6 (x.cells (.slice A6 x.es.length cap6)) 26)
  have SZ := Lib.hid (ho6.sl_of.2.up (up_blk (cs := x.cells (.slice A6 x.es.length cap6)) (t := 26) (Lex.Up.refl w6)))
  have KX6 := Lib.hid (KX5.out.up hua); have SX6 := Lib.hid (SX5.out.up hua); have KY6 := Lib.hid (KY5.out.up hua); have SY6 := Lib.hid (SY5.out.up hua); have U6 := Lib.hid (U5.out.trans hua)
  have P6 := Lib.hid (P5.out.below hua)
  have Q6 := Lib.hid (Q5.out.below hua)
  clear ho6 hb6 hua KX5 SX5 KY5 SY5 U5 P5 Q5 CZ
  simp only [Fr.val]
  go_upto_region 7 with (fail)
  refine wp_named (fun W7 hW => ?_)
  have hW' : W7 = w6.alloc (.cells (x.cells (.slice A6 x.es.length cap6)) 26) := hW
  rw [← hW'] at KZ SZ KX6 SX6 KY6 SY6 U6 P6 Q6
  clear hW hW'
  have FX := Lib.hid (fun w' (h : Lex.Up W7 w') => (KX6.out.up h).fr)
  have FY := Lib.hid (fun w' (h : Lex.Up W7 w') => (KY6.out.up h).fr)
  have FZ := Lib.hid (fun w' (h : Lex.Up W7 w') => (KZ.out.up h).fr)
  have FP := Lib.hid (fun w' (h : Lex.Up W7 w') => conv_slc (P6.out.below h))
  have FQ := Lib.hid (fun w' (h : Lex.Up W7 w') => conv_slc (Q6.out.below h))
  have S1 := Lib.hid (fun w' (h : Lex.Up W7 w') => CS.out x y A9 A7 _ _ cap9 cap7 w' (SX6.out.up h) (SY6.out.up h))
  have S2 := Lib.hid (fun w' (h : Lex.Up W7 w') => CS.out x y A6 A7 _ _ cap6 cap7 w' (SZ.out.up h) (SY6.out.up h))
  obtain ⟨q, hq⟩ : ∃ q, decide (x = y) = q := ⟨_, rfl⟩
  rw [hq] at HST S1 S2
  clear hq CS KX6 SX6 KY6 SY6 KZ SZ P6 Q6
  refine Lex.wp_region_lex (by kernel_rfl) (by kernel_rfl) (by rfl) ?_
  repeat (first | (refine Lex.lex_skip (by rfl) (by rfl) (by rfl) ?_; simp only [Act.put, List.setIfInBounds_toArray, List.set_cons_zero, List.set_cons_succ]) | (refine Lex.lex_pure (c := ?_) (by rfl) (by rfl) (fun w' hC => ?_) (by rfl) ?_; rotate_left 1; (have ⟨c0, c1, c2, c3, c4, c5, c6, c7, c8⟩ := FX.out w' hC; have ⟨d0, d1, d2, d3, d4, d5, d6, d7, d8⟩ := FY.out w' hC; have p0 := FP.out w' hC; have p1 := FQ.out w' hC; go_simp; rfl); simp only [Act.put, List.setIfInBounds_toArray, List.set_cons_zero, List.set_cons_succ]))
  cases q
  · refine Lex.lex_callv (f := 17) (args := #[x.val (.slice A9 x.es.length cap9), y.val (.slice A7 y.es.length cap7)]) (.bool false) (by rfl) (by rfl) (fun w' => by unfold Fr.val; go_simp) (fun w' hC => S1.out w' hC) (by rfl) ?_
    simp only [Act.put, List.setIfInBounds_toArray, List.set_cons_zero, List.set_cons_succ]
    repeat (first | (refine Lex.lex_skip (by rfl) (by rfl) (by rfl) ?_; simp only [Act.put, List.setIfInBounds_toArray, List.set_cons_zero, List.set_cons_succ]) | (refine Lex.lex_pure (c := ?_) (by rfl) (by rfl) (fun w' hC => ?_) (by rfl) ?_; rotate_left 1; (have ⟨c0, c1, c2, c3, c4, c5, c6, c7, c8⟩ := FZ.out w' hC; have ⟨d0, d1, d2, d3, d4, d5, d6, d7, d8⟩ := FY.out w' hC; go_simp; rfl); simp only [Act.put, List.setIfInBounds_toArray, List.set_cons_zero, List.set_cons_succ]))
    refine Lex.lex_callv (f := 17) (args := #[x.val (.slice A6 x.es.length cap6), y.val (.slice A7 y.es.length cap7)]) (.bool false) (by rfl) (by rfl) (fun w' => by unfold Fr.val; go_simp) (fun w' hC => S2.out w' hC) (by rfl) ?_
    simp only [Act.put, List.setIfInBounds_toArray, List.set_cons_zero, List.set_cons_succ]
    repeat (first | (refine Lex.lex_skip (by rfl) (by rfl) (by rfl) ?_; simp only [Act.put, List.setIfInBounds_toArray, List.set_cons_zero, List.set_cons_succ]) | (refine Lex.lex_pure (c := ?_) (by rfl) (by rfl) (fun w' hC => ?_) (by rfl) ?_; rotate_left 1; (have ⟨c0, c1, c2, c3, c4, c5, c6, c7, c8⟩ := FX.out w' hC; have ⟨d0, d1, d2, d3, d4, d5, d6, d7, d8⟩ := FY.out w' hC; go_simp; rfl); simp only [Act.put, List.setIfInBounds_toArray, List.set_cons_zero, List.set_cons_succ]))
    refine Lex.lex_callv (f := 17) (args := #[x.val (.slice A9 x.es.length cap9), y.val (.slice A7 y.es.length cap7)]) (.bool false) (by rfl) (by rfl) (fun w' => by unfold Fr.val; go_simp) (fun w' hC => S1.out w' hC) (by rfl) ?_
    simp only [Act.put, List.setIfInBounds_toArray, List.set_cons_zero, List.set_cons_succ]
    repeat (first | (refine Lex.lex_skip (by rfl) (by rfl) (by rfl) ?_; simp only [Act.put, List.setIfInBounds_toArray, List.set_cons_zero, List.set_cons_succ]) | (refine Lex.lex_pure (c := ?_) (by rfl) (by rfl) (fun w' hC => ?_) (by rfl) ?_; rotate_left 1; (go_simp; rfl); simp only [Act.put, List.setIfInBounds_toArray, List.set_cons_zero, List.set_cons_succ]))
    refine Lex.lex_nil (fun w9 hC => ?_)
    simp only [Lex.fill]
    have U9 := Lib.hid (U6.out.trans hC)
    clear hC
    go_wp2
    go_ret
    exact ⟨rfl, U9.out⟩
  · refine Lex.lex_callv (f := 17) (args := #[x.val (.slice A9 x.es.length cap9), y.val (.slice A7 y.es.length cap7)]) (.bool true) (by rfl) (by rfl) (fun w' => by unfold Fr.val; go_simp) (fun w' hC => S1.out w' hC) (by rfl) ?_
    simp only [Act.put, List.setIfInBounds_toArray, List.set_cons_zero, List.set_cons_succ]
    repeat (first | (refine Lex.lex_skip (by rfl) (by rfl) (by rfl) ?_; simp only [Act.put, List.setIfInBounds_toArray, List.set_cons_zero, List.set_cons_succ]) | (refine Lex.lex_pure (c := ?_) (by rfl) (by rfl) (fun w' hC => ?_) (by rfl) ?_; rotate_left 1; (have ⟨c0, c1, c2, c3, c4, c5, c6, c7, c8⟩ := FZ.out w' hC; have ⟨d0, d1, d2, d3, d4, d5, d6, d7, d8⟩ := FY.out w' hC; go_simp; rfl); simp only [Act.put, List.setIfInBounds_toArray, List.set_cons_zero, List.set_cons_succ]))
    refine Lex.lex_callv (f := 17) (args := #[x.val (.slice A6 x.es.length cap6), y.val (.slice A7 y.es.length cap7)]) (.bool true) (by rfl) (by rfl) (fun w' => by unfold Fr.val; go_simp) (fun w' hC => S2.out w' hC) (by rfl) ?_
    simp only [Act.put, List.setIfInBounds_toArray, List.set_cons_zero, List.set_cons_succ]
    repeat (first | (refine Lex.lex_skip (by rfl) (by rfl) (by rfl) ?_; simp only [Act.put, List.setIfInBounds_toArray, List.set_cons_zero, List.set_cons_succ]) | (refine Lex.lex_pure (c := ?_) (by rfl) (by rfl) (fun w' hC => ?_) (by rfl) ?_; rotate_left 1; (have ⟨c0, c1, c2, c3, c4, c5, c6, c7, c8⟩ := FX.out w' hC; have ⟨d0, d1, d2, d3, d4, d5, d6, d7, d8⟩ := FY.out w' hC; go_simp; rfl); simp only [Act.put, List.setIfInBounds_toArray, List.set_cons_zero, List.set_cons_succ]))
    refine Lex.lex_callv (f := 17) (args := #[x.val (.slice A9 x.es.length cap9), y.val (.slice A7 y.es.length cap7)]) (.bool true) (by rfl) (by rfl) (fun w' => by unfold Fr.val; go_simp) (fun w' hC => S1.out w' hC) (by rfl) ?_
    simp only [Act.put, List.setIfInBounds_toArray, List.set_cons_zero, List.set_cons_succ]
    repeat (first | (refine Lex.lex_skip (by rfl) (by rfl) (by rfl) ?_; simp only [Act.put, List.setIfInBounds_toArray, List.set_cons_zero, List.set_cons_succ]) | (refine Lex.lex_pure (c := ?_) (by rfl) (by rfl) (fun w' hC => ?_) (by rfl) ?_; rotate_left 1; (go_simp; rfl); simp only [Act.put, List.setIfInBounds_toArray, List.set_cons_zero, List.set_cons_succ]))
    refine Lex.lex_nil (fun w9 hC => ?_)
    simp only [Lex.fill]
    have U9 := Lib.hid (U6.out.trans hC)
    clear hC
    go_wp2
    go_ret
    exact ⟨rfl, U9.out⟩
end Go.Proofs.Ytldhmpngehlnhaa
