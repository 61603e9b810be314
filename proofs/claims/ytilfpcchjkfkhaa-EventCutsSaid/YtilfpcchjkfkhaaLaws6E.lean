/-
  The walk of EventCuts.
-/
import Derived.Test.YtilfpcchjkfkhaaLaws6D
namespace Go.Proofs.Ytilfpcchjkfkhaa
open Go.RowKit

def CutRel (W : World) (v12 : Value) (n : Nat) (wr : World) : Prop := ∃ i : Nat, i ≤ n ∧ v12 = .int .i64 i ∧ Hid (Lex.Up W wr)
set_option maxRecDepth 100000 in
set_option maxHeartbeats 4000000 in
theorem law_cuts (a b : Ev) (w : World) (h1 : a.key.size ≤ 140737488351232) (h2 : a.v.size ≤ 140737488351232) (h3 : b.key.size ≤ 140737488351232) (h4 : b.v.size ≤ 140737488351232) :
    Calls Try.prog 4 #[a.val, b.val] w fun e w' => e = .returned (.bool true) ∧ Below w.heap.size w w' := by
  have C0 := Lib.hid (fun w => shown_any w)
  have CA := Lib.hid (fun w => fit6_any a w h1 h2)
  have CB := Lib.hid (fun w => fit6_any b w h3 h4)
  have CP := Lib.hid (fun x w h1 h2 => eput_any x w h1 h2)
  have CT := Lib.hid (fun A n cap xs w h => etake_any A n cap xs w h)
  clear h1 h2 h3 h4
  have KA := Lib.hid ((Blk.new w a.cells 25).alloc (.cells b.cells 25))
  have KB := Lib.hid (Blk.new (w.alloc (.cells a.cells 25)) b.cells 25)
  have U0 := Lib.hid (show Lex.Up w ((w.alloc (.cells a.cells 25)).alloc (.cells b.cells 25)) from up_blk (up_blk (Lex.Up.refl w)))
  simp only [World.size_alloc] at KB
  unfold Ev.val at *
  go_enter Try.func4, Try.ntmps4
  go_wp2_with fail
  refine (C0.out _).mono ?_
  rintro e w1 ⟨rfl, hb1⟩
  have KA1 := Lib.hid (KA.out.up hb1); have KB1 := Lib.hid (KB.out.up hb1); have U1 := Lib.hid (U0.out.trans hb1)
  clear KA KB U0 hb1
  obtain ⟨k0, k1, k2, k3, k4, k5, k6, k7, k8, k9, k10, k11⟩ := Blk.all w1 KA1.out
  go_wp2_with fail
  refine (CA.out _).mono ?_
  rintro e w2 ⟨x, hx, rfl, hb2⟩
  have GX := Lib.hid hx
  have KB2 := Lib.hid (KB1.out.up hb2)
  have KX := Lib.hid (Blk.new w2 x.cells 25)
  have UX := Lib.hid (up_blk (cs := x.cells) (t := 25) (U1.out.trans hb2))
  clear k0 k1 k2 k3 k4 k5 k6 k7 k8 k9 k10 k11 KA1 KB1 U1 hb2 hx
  obtain ⟨k0, k1, k2, k3, k4, k5, k6, k7, k8, k9, k10, k11⟩ := Blk.all _ KB2.out
  have lB := KB2.out.lt
  clear KB2
  simp only
  go_wp2_with fail
  refine (CB.out _).mono ?_
  rintro e w3 ⟨y, hy, rfl, hb3⟩
  have GY := Lib.hid hy
  clear k0 k1 k2 k3 k4 k5 k6 k7 k8 k9 k10 k11 lB
  have JX := Lib.hid ((KX.out.up hb3).alloc (.cells y.cells 25))
  have JY := Lib.hid (Blk.new w3 y.cells 25)
  have U3 := Lib.hid (up_blk (cs := y.cells) (t := 25) (UX.out.trans hb3))
  clear KX UX hb3 hy C0 CA CB
  simp only
  have CX := Lib.hid (fun w => CP.out x w (by have := GX.out.n1; omega) (by have := GX.out.nM; omega))
  rw [(Ev.good_iff x).2 GX.out, Ev.out_good GX.out] at CX
  have CY := Lib.hid (fun w => CP.out y w (by have := GY.out.n1; omega) (by have := GY.out.nM; omega))
  rw [(Ev.good_iff y).2 GY.out, Ev.out_good GY.out] at CY
  have BX := Lib.hid (Ev.bytes_lt GX.out)
  have BY := Lib.hid (Ev.bytes_lt GY.out)
  have LX := Ev.bytes_len GX.out
  have LY := Ev.bytes_len GY.out
  have TS := Lib.hid (fun (n : Nat) hn => Fl.take_short GX.out (n := n) hn)
  have AP := Lib.hid (Ev.bytes_apart GX.out GY.out)
  generalize Ev.bytes x = p at *
  generalize Ev.bytes y = q at *
  clear GX GY CP
  go_upto_region 4 with (fail)
  refine wp_named (fun W hW => ?_)
  have hW' : W = w3.alloc (.cells y.cells 25) := hW
  rw [← hW'] at JX JY U3
  clear hW hW'
  obtain ⟨k0, k1, k2, k3, k4, k5, k6, k7, k8, k9, k10, k11⟩ := Blk.all W JX.out
  go_wp2_with fail
  clear k0 k1 k2 k3 k4 k5 k6 k7 k8 k9 k10 k11
  refine (CX.out _).mono ?_
  rintro e w4 ⟨v4, rfl, hown4, hb4⟩
  obtain ⟨A4, c4, rfl, s4⟩ := slc_of_own2 hown4 BX.out
  have U4 := Lib.hid (show Lex.Up W w4 from hb4)
  have S4 := Lib.hid s4
  clear hown4 s4 hb4 CX
  obtain ⟨k0, k1, k2, k3, k4, k5, k6, k7, k8, k9, k10, k11⟩ := Blk.all w4 (JY.out.up U4.out)
  go_wp2_with fail
  clear k0 k1 k2 k3 k4 k5 k6 k7 k8 k9 k10 k11
  refine (CY.out _).mono ?_
  rintro e w5 ⟨v5, rfl, hown5, hb5⟩
  obtain ⟨A5, c5, rfl, s5⟩ := slc_of_own2 hown5 BY.out
  have U5 := Lib.hid (U4.out.trans hb5)
  have S5 := Lib.hid s5
  have S6 := Lib.hid (S4.out.below hb5)
  have KX := Lib.hid (JX.out.up U5.out)
  have KY := Lib.hid (JY.out.up U5.out)
  have UW := Lib.hid (U3.out.trans U5.out)
  have hc4 := S4.out.2.1
  have hm4 := S4.out.2.2.1
  clear hown5 s5 hb5 CY S4 U4 U5 U3 JX JY
  have hq0 := fun w => eq_self Ev.zero w
  simp only [Ev.zero, Ck.zero] at hq0
  go_wp2
  go_loopw [12] (fun v12 wr => CutRel w5 v12 p.length wr) (fun v12 _ => p.length - (intOf v12).toNat)
  case atStart => exact ⟨0, Nat.zero_le _, rfl, Lib.hid (Lex.Up.refl w5)⟩
  case round =>
    obtain ⟨i, hi, rfl, KU⟩ := hrel
    by_cases hlt : i < p.length
    · have hlt' : (i : Int) < p.length := by omega
      have hic : (i : Int) ≤ c4 := by omega
      have CI := Lib.hid (CT.out A4 i c4 (p.take i) wr ((S6.out.below KU.out).take_ (Nat.le_of_lt hlt)))
      rw [TS.out i hlt] at CI
      go_wp2_with fail
      refine CI.out.mono ?_
      rintro e w6 ⟨rfl, hb6⟩
      have U6 := Lib.hid (up_blk (cs := Ev.zero.cells) (t := 25) (KU.out.trans hb6))
      have KZ := Lib.hid (Blk.new w6 Ev.zero.cells 25)
      clear hb6 CI KU
      simp only [Ev.zero, Ck.zero]
      go_upto_region 12 with (fail)
      refine wp_named (fun W2 hW2 => ?_)
      have hW3 : W2 = w6.alloc (.cells Ev.zero.cells 25) := hW2
      rw [← hW3] at U6 KZ
      clear hW2 hW3
      obtain ⟨l0, l1, l2, l3, l4, l5, l6, l7, l8, l9, l10, l11⟩ := Blk.all W2 KZ.out
      simp only [Ev.zero, Ck.zero] at l0 l1 l2 l3 l4 l5 l6 l7 l8 l9 l10 l11
      clear KZ
      go_wp2
      go_roundw
      case rel => exact ⟨i + 1, by omega, by go_num, U6⟩
      case measure => simp [intOf]; omega
    · obtain rfl : i = p.length := by omega
      clear hi hlt CT TS hq0
      obtain ⟨d, hd⟩ : ∃ d, decide (x = y) = d := ⟨_, rfl⟩
      have hap : decide (p.take (min p.length q.length) = q.take (min p.length q.length)) = d := by
        rw [← hd]; exact decide_eq_decide.2 AP.out
      have hqe := fun w => eq_ev x y w
      rw [hd] at hqe
      clear hd AP
      have hn1 : min p.length q.length ≤ p.length := Nat.min_le_left _ _
      have hn2 : min p.length q.length ≤ q.length := Nat.min_le_right _ _
      have hcast : min (p.length : Int) (q.length : Int) = ((min p.length q.length : Nat) : Int) := by omega
      generalize min p.length q.length = m at *
      have S7 := Lib.hid ((S6.out.below KU.out).take_ hn1)
      have S8 := Lib.hid ((S5.out.below KU.out).take_ hn2)
      have BM1 : Bts (p.take m) := fun z hz => BX.out z (List.mem_of_mem_take hz)
      have BM2 : Bts (q.take m) := fun z hz => BY.out z (List.mem_of_mem_take hz)
      have hst := str_eq BM1 BM2
      rw [hap] at hst
      have CV1 := Lib.hid (fun w' (h : Lex.Up wr w') => conv_slc (S7.out.below h))
      have CV2 := Lib.hid (fun w' (h : Lex.Up wr w') => conv_slc (S8.out.below h))
      generalize str (p.take m) = s1 at *
      generalize str (q.take m) = s2 at *
      have m1 : (m : Int) ≤ c4 := by omega
      have m2 : (m : Int) ≤ c5 := by have := S5.out.2.1; omega
      have FX := Lib.hid (fun w' (h : Lex.Up wr w') => Blk.all w' (KX.out.up (KU.out.trans h)))
      have FY := Lib.hid (fun w' (h : Lex.Up wr w') => Blk.all w' (KY.out.up (KU.out.trans h)))
      have U9 := Lib.hid (UW.out.trans KU.out)
      clear hap hn1 hn2 S5 S6 S7 S8 KX KY KU UW BM1 BM2 BX BY
      go_wp2
      try rw [hcast]
      refine Lex.wp_region_lex (by kernel_rfl) (by kernel_rfl) (by rfl) ?_
      repeat (first | (refine Lex.lex_skip (by rfl) (by rfl) (by rfl) ?_; simp only [Act.put, List.setIfInBounds_toArray, List.set_cons_zero, List.set_cons_succ]) | (refine Lex.lex_pure (c := ?_) (by rfl) (by rfl) (fun w' hC => ?_) (by rfl) ?_; rotate_left 1; (have hc1 := CV1.out w' hC; have hc2 := CV2.out w' hC; have ⟨k0, k1, k2, k3, k4, k5, k6, k7, k8, k9, k10, k11⟩ := FX.out w' hC; have ⟨j0, j1, j2, j3, j4, j5, j6, j7, j8, j9, j10, j11⟩ := FY.out w' hC; go_simp; rfl); simp only [Act.put, List.setIfInBounds_toArray, List.set_cons_zero, List.set_cons_succ]))
      refine Lex.lex_nil (fun w10 hC => ?_)
      simp only [Lex.fill]
      have U10 := Lib.hid (U9.out.trans hC)
      clear hC
      go_wp2
      go_ret
      exact ⟨rfl, U10.out⟩
end Go.Proofs.Ytilfpcchjkfkhaa
