/-
  The walk of FrameCuts.
-/
import Derived.Test.YtldhmpngehlnhaaLaws7A
import Derived.Test.YtldhmpngehlnhaaFrC
namespace Go.Proofs.Ytldhmpngehlnhaa
open Go.RowKit
set_option maxRecDepth 100000

set_option maxHeartbeats 4000000 in
theorem law_cuts (f : Fr) (A : Option Addr) (n cap : Nat) (m : Nat) (w : World) (h : EvSl w A n cap f.es) (hs : ∀ e ∈ f.es, e.key.size ≤ 140737488351232 ∧ e.v.size ≤ 140737488351232) (hm : m < 65536) :
    Calls Try.prog 8 #[f.val (.slice A n cap), .int .u16 m] w fun e w' => e = .returned (.bool true) ∧ Below w.heap.size w w' := by
  have C0 := Lib.hid (fun w => shown_any w)
  have CF := Lib.hid (fun w h => fit7_any f A n cap w h hs)
  have CP := Lib.hid (fun f A n cap w h => frput_any f A n cap w h)
  have CT := Lib.hid (fun A n cap xs w h => frtake_any A n cap xs w h)
  have KA := Lib.hid (Blk.new w (f.cells (.slice A n cap)) 26)
  have U0 := Lib.hid (show Lex.Up w (w.alloc (.cells (f.cells (.slice A n cap)) 26)) from up_blk (Lex.Up.refl w))
  have SL := Lib.hid (fun w' (hu : Lex.Up w w') => EvSl.up h hu)
  clear h hs
  unfold Fr.val at *
  go_enter Try.func8, Try.ntmps8
  go_wp2_with fail
  refine (C0.out _).mono ?_
  rintro e w1 ⟨rfl, hb1⟩
  have KA1 := Lib.hid (KA.out.up hb1); have U1 := Lib.hid (U0.out.trans hb1)
  clear KA U0 hb1 C0
  obtain ⟨k0, k1, k2, k3, k4, k5, k6, k7, k8⟩ := KA1.out.fr
  go_wp2_with fail
  clear k0 k1 k2 k3 k4 k5 k6 k7 k8
  refine (CF.out _ (SL.out _ U1.out)).mono ?_
  rintro e w2 ⟨x, A9, cap9, hx, rfl, hs2, hb2⟩
  have U2 := Lib.hid (U1.out.trans hb2)
  have G := Lib.hid hx
  have CX := Lib.hid (CP.out x A9 _ cap9 _ hs2)
  rw [(Fr.may_iff x).2 hx, if_pos rfl, Fr.out_good hx] at CX
  have HL := Fr.bytes_len hx
  have HLT := Lib.hid (Fr.bytes_lt hx)
  clear KA1 U1 hb2 CF SL hx hs2
  unfold Fr.val
  go_wp2_with fail
  refine CX.out.mono ?_
  rintro e w3 ⟨v, rfl, hown, hb3⟩
  obtain ⟨A3, cap3, rfl, hs3⟩ := slc_of_own2 hown HLT.out
  have S3 := Lib.hid hs3
  have U3 := Lib.hid (U2.out.trans hb3)
  have hc3 := hs3.2.1
  have hm3 := hs3.2.2.1
  clear hown hb3 CX U2 hs3 G
  generalize Fr.bytes x = bs at *
  obtain ⟨L, hL⟩ : ∃ L, bs.length = L := ⟨_, rfl⟩
  rw [hL] at HL S3 hc3 ⊢
  have HLL := Lib.hid hL
  clear hL
  obtain ⟨M, hM⟩ : ∃ M, L = M + 4 := ⟨L - 4, by omega⟩
  have hMi : (L : Int) - 4 = (M : Int) := by omega
  have d5 : decide ((L : Int) < 5) = false := by simp; omega
  obtain ⟨k, hk, hk4⟩ : ∃ k : Nat, (m : Int).tmod 4 = k ∧ k < 4 := ⟨m % 4, by rw [Int.tmod_eq_emod_of_nonneg (by omega)]; omega, Nat.mod_lt _ (by decide)⟩
  obtain ⟨j, hj, hjL⟩ : ∃ j : Nat, (m : Int).tmod ((L : Int) - 4) = j ∧ j < M := ⟨m % M, by rw [hMi, Int.tmod_eq_emod_of_nonneg (by omega)]; omega, Nat.mod_lt _ (by omega)⟩
  have wm : IntKind.i64.wrap (m : Int) = m := IntWalk.i64_in _ ⟨by omega, by omega⟩
  have wL : IntKind.i64.wrap ((L : Int) - 4) = (L : Int) - 4 := IntWalk.i64_in _ ⟨by omega, by omega⟩
  have wj : IntKind.i64.wrap (4 + (j : Int)) = ((4 + j : Nat) : Int) := by rw [IntWalk.i64_in _ ⟨by omega, by omega⟩]; omega
  have j1 : 0 ≤ 4 + (j : Int) := by omega
  have j2 : 4 + (j : Int) ≤ cap3 := by omega
  have j3 : (4 + (j : Int)).toNat = 4 + j := by omega
  have hL4 : ¬ ((L : Int) - 4 = 0) := by omega
  have hkL : (k : Int) ≤ L := by omega
  have hkc : (k : Int) ≤ cap3 := by omega
  have hjc : ((4 + j : Nat) : Int) ≤ cap3 := by omega
  have SK := Lib.hid (S3.out.take_ (u := k) (by omega))
  have SJ := Lib.hid (S3.out.take_ (u := 4 + j) (by omega))
  have TK := Fr.take_four (xs := bs.take k) (by rw [List.length_take]; omega)
  have CK := Lib.hid (fun w h => CT.out A3 k cap3 (bs.take k) w h)
  have CJ := Lib.hid (fun w h => CT.out A3 (4 + j) cap3 (bs.take (4 + j)) w h)
  have TO := Lib.hid (fun h => Fr.take_of (xs := bs.take (4 + j)) (fun x hx => HLT.out x (List.mem_of_mem_take hx)) h)
  have TE := Fr.take_errs (bs.take (4 + j))
  have hlen : (bs.take (4 + j)).length ≤ 898 := by rw [List.length_take]; omega
  rw [TK] at CK
  clear TK CT
  generalize bs.take (4 + j) = zs at *
  generalize Fr.takeF zs = T at *
  obtain ⟨g, z⟩ := T
  clear hM hMi
  go_wp2_with fail
  refine (CK.out _ SK.out).mono ?_
  rintro e w4 ⟨A4, cap4, rfl, ho4, hb4⟩
  have UA := up_blk (cs := Fr.zero.cells (.slice A4 Fr.zero.es.length cap4)) (t := 26) hb4
  have S4 := Lib.hid (SJ.out.below UA)
  have S5 := Lib.hid (S3.out.below UA)
  have U4 := Lib.hid (U3.out.trans UA)
  clear ho4 hb4 UA CK SK S3 U3 SJ
  simp only [Fr.val]
  go_upto_region 6 with (fail)
  go_wp2_with fail
  refine (CJ.out _ S4.out).mono ?_
  rintro e w6 ⟨A6, cap6, rfl, ho6, hb6⟩
  have UA := up_blk (cs := g.cells (.slice A6 g.es.length cap6)) (t := 26) (Lex.Up.refl w6)
  have KG := Lib.hid (Blk.new w6 (g.cells (.slice A6 g.es.length cap6)) 26)
  have SG := Lib.hid ((ho6.up UA).sl_of.2)
  have S6 := Lib.hid ((S4.out.below hb6).below UA)
  have S7 := Lib.hid ((S5.out.below hb6).below UA)
  have U6 := Lib.hid ((U4.out.trans hb6).trans UA)
  clear ho6 hb6 UA CJ S4 S5 U4
  simp only [Fr.val]
  go_upto_region 7 with (fail)
  refine wp_named (fun W7 hW => ?_)
  have hW' : W7 = w6.alloc (.cells (g.cells (.slice A6 g.es.length cap6)) 26) := hW
  rw [← hW'] at KG SG S6 S7 U6
  clear hW hW'
  by_cases hz : z = 0
  · subst hz
    obtain ⟨hg, hb⟩ := TO.out rfl
    have CG := Lib.hid (CP.out g A6 _ cap6 _ SG.out)
    rw [(Fr.may_iff g).2 hg, if_pos rfl, Fr.out_good hg, hb] at CG
    have HZT := Lib.hid (show Bts zs by rw [← hb]; exact Fr.bytes_lt hg)
    clear TO TE hg hb CP
    obtain ⟨c0, c1, c2, c3, c4, c5, c6, c7, c8⟩ := KG.out.fr
    go_wp2_with fail
    clear c0 c1 c2 c3 c4 c5 c6 c7 c8
    refine CG.out.mono ?_
    rintro e w8 ⟨v8, rfl, hown8, hb8⟩
    obtain ⟨A8, cap8, rfl, hs8⟩ := slc_of_own2 hown8 HZT.out
    have S8 := Lib.hid (S6.out.below hb8)
    have U8 := Lib.hid (U6.out.trans hb8)
    have FA := Lib.hid (fun w' (h : Lex.Up w8 w') => conv_slc (hs8.below h))
    have FB := Lib.hid (fun w' (h : Lex.Up w8 w') => conv_slc (S8.out.below h))
    clear hown8 hb8 hs8 KG SG S6 S7 U6 CG S8
    generalize zs.length = Z at *
    go_wp2
    refine Lex.wp_region_lex (by kernel_rfl) (by kernel_rfl) (by rfl) ?_
    repeat (first | (refine Lex.lex_skip (by rfl) (by rfl) (by rfl) ?_; simp only [Act.put, List.setIfInBounds_toArray, List.set_cons_zero, List.set_cons_succ]) | (refine Lex.lex_pure (c := ?_) (by rfl) (by rfl) (fun w' hC => ?_) (by rfl) ?_; rotate_left 1; (have c0 := FA.out w' hC; have c1 := FB.out w' hC; go_simp; rfl); simp only [Act.put, List.setIfInBounds_toArray, List.set_cons_zero, List.set_cons_succ]))
    refine Lex.lex_nil (fun w9 hC => ?_)
    simp only [Lex.fill]
    have U9 := Lib.hid (U8.out.trans hC)
    clear hC
    go_wp2
    go_ret
    exact ⟨rfl, U9.out⟩
  · have hz34 : z = 3 ∨ z = 4 := by
      rcases TE with h | ⟨e, h, h2⟩
      · exact absurd h hz
      · injection h with _ h
        omega
    clear TE TO hz CP
    rcases hz34 with rfl | rfl
    · go_wp2
      go_ret
      exact ⟨rfl, U6.out⟩
    · go_wp2
      go_ret
      exact ⟨rfl, U6.out⟩
end Go.Proofs.Ytldhmpngehlnhaa
