/-
  The walk of FrameBursts.
-/
import Derived.Test.YtldhmpngehlnhaaLaws7A
import Derived.Test.YtldhmpngehlnhaaFrC
import Derived.Test.YtldhmpngehlnhaaFrS
import Derived.Test.YtldhmpngehlnhaaBur
import Derived.StillTailTactics
import Derived.Lib.SmallJoins
namespace Go.Proofs.Ytldhmpngehlnhaa
open Go.RowKit
set_option maxRecDepth 100000

set_option maxHeartbeats 4000000 in
theorem law_bursts (f : Fr) (A : Option Addr) (n cap : Nat) (at_ : Int) (mask : Nat) (w : World) (h : EvSl w A n cap f.es) (hs : ∀ e ∈ f.es, e.key.size ≤ 140737488351232 ∧ e.v.size ≤ 140737488351232) (hmask : mask < 4294967296) :
    Calls Try.prog 5 #[f.val (.slice A n cap), .int .i64 at_, .int .u32 mask] w fun e w' => e = .returned (.bool true) ∧ Below w.heap.size w w' := by
  have C0 := Lib.hid (fun w => shown_any w)
  have CF := Lib.hid (fun w h => fit7_any f A n cap w h hs)
  have CP := Lib.hid (fun f A n cap w h => frput_any f A n cap w h)
  have CT := Lib.hid (fun A n cap xs w h => frtake_any A n cap xs w h)
  have CS := Lib.hid (fun f g A B n m cap cap2 w ha hb => same7_any f g A B n m cap cap2 w ha hb)
  have KA := Lib.hid (Blk.new w (f.cells (.slice A n cap)) 26)
  have U0 := Lib.hid (show Lex.Up w (w.alloc (.cells (f.cells (.slice A n cap)) 26)) from up_blk (Lex.Up.refl w))
  have SA := Lib.hid (fun w' (hu : Lex.Up w w') => EvSl.up h hu)
  clear h hs
  have SW := Lib.hid (fun i => shr_bit mask i hmask)
  clear hmask
  unfold Fr.val at *
  go_enter Try.func5, Try.ntmps5
  go_wp2_with fail
  refine (C0.out _).mono ?_
  rintro e w1 ⟨rfl, hb1⟩
  have KA1 := Lib.hid (KA.out.up hb1); have U1 := Lib.hid (U0.out.trans hb1)
  clear KA U0 hb1 C0
  obtain ⟨k0, k1, k2, k3, k4, k5, k6, k7, k8⟩ := KA1.out.fr
  go_wp2_with fail
  clear k0 k1 k2 k3 k4 k5 k6 k7 k8
  refine (CF.out _ (SA.out _ U1.out)).mono ?_
  rintro e w2 ⟨x, A9, cap9, hx, rfl, hs2, hb2⟩
  have U2 := Lib.hid (U1.out.trans hb2)
  have CX := Lib.hid (CP.out x A9 _ cap9 _ hs2)
  rw [(Fr.may_iff x).2 hx, if_pos rfl, Fr.out_good hx] at CX
  have SL := Lib.hid (Fr.bytes_lt hx)
  have HL := Fr.bytes_len hx
  have OS := Lib.hid (show Cr.opens (Fr.bytes x) = true from Cr.opens_sealed _)
  have TP := Lib.hid (Fr.take_put hx)
  clear hx hs2 hb2 KA1 U1 CF SA CP
  simp only [Fr.val]
  go_wp2_with fail
  refine CX.out.mono ?_
  rintro e w3 ⟨v3, rfl, hown3, hb3⟩
  obtain ⟨A2, c2, rfl, hs3⟩ := slc_of_own2 hown3 SL.out
  have B3 := Lib.hid (U2.out.trans hb3)
  clear hown3 hb3 CX U2
  generalize Fr.bytes x = s at *
  obtain ⟨L, hLd⟩ : ∃ L, s.length = L := ⟨_, rfl⟩
  rw [hLd] at HL hs3 ⊢
  have S2b := Lib.hid hs3
  have LS := Lib.hid hLd
  clear hLd hs3
  obtain ⟨L0, L1⟩ := HL
  obtain ⟨q, hq⟩ : ∃ q, at_.tmod (8 * (L : Int)) = q := ⟨_, rfl⟩
  have q1 : -(8 * (L : Int)) < q := by rw [← hq]; exact Int.lt_tmod_of_pos at_ (by omega)
  have q2 : q < 8 * (L : Int) := by rw [← hq]; exact Int.tmod_lt_of_pos _ (by omega)
  have n8 : IntKind.i64.wrap (8 * (L : Int)) = 8 * (L : Int) := IntWalk.i64_in _ ⟨by omega, by omega⟩
  have nq : IntKind.i64.wrap (q + 8 * (L : Int)) = q + 8 * (L : Int) := IntWalk.i64_in _ ⟨by omega, by omega⟩
  obtain ⟨k, hk⟩ : ∃ k : Nat, (q + 8 * (L : Int)).tmod (8 * (L : Int)) = k := ⟨((q + 8 * (L : Int)).tmod (8 * (L : Int))).toNat, by rw [Int.tmod_eq_emod_of_nonneg (by omega)]; have := Int.emod_nonneg (q + 8 * (L : Int)) (b := 8 * (L : Int)) (by omega); omega⟩
  have k1 : k < 8 * L := by have := Int.tmod_lt_of_pos (q + 8 * (L : Int)) (b := 8 * (L : Int)) (by omega); omega
  have h8 : ¬ (8 * (L : Int) = 0) := by omega
  have hz3 := B3.out.size
  have O0 := Lib.hid (World.ownsRow_made (base := w3.heap.size) (e := 5) (size := 1) w3 #[] 0 (Nat.le_refl _) (Nat.zero_le _) rfl)
  have S4 := Lib.hid (S2b.out.below ((Below.refl w3.heap.size w3).alloc (Nat.le_refl _) (.cells #[] 5)))
  go_wp2_with (at_builtin; refine wpList_append_slc rfl _ _ rfl w3.heap.size (.slice (some ⟨w3.heap.size, 0, none⟩) 0 0) 0 [] rfl O0.out A2 L c2 s rfl S4.out (by omega) (by simp) ?_)
  intro v4 w4 hown4 hg4
  obtain ⟨g, c4, rfl⟩ := Joins.ownsRow_form hown4 (by omega)
  have O4 := Lib.hid (show w4.ownsRow w3.heap.size 5 1 (.slice (some ⟨g, 0, none⟩) L c4) L (s.map bv) by simpa using hown4)
  have B4 := Lib.hid (((Below.refl w3.heap.size w3).alloc (Nat.le_refl _) (.cells #[] 5)).grown hg4 (by simp) (fun k hk => by simp [Value.ownBlock] at hk; omega))
  have hcap : L ≤ c4 ∧ c4 ≤ 9223372036854775807 := by
    obtain ⟨_, _, e, h⟩ := slc_of_own2 O4.out SL.out
    simp only [Value.slice.injEq] at e
    obtain ⟨_, _, rfl⟩ := e
    exact ⟨h.2.1, h.2.2.1⟩
  obtain ⟨hc1, hc2⟩ := hcap
  clear hown4 hg4 S4 O0
  go_wp2
  go_loopw [13] (fun v13 wr => BurRel g w3.heap.size s L c4 k mask w3 v13 wr) (fun v13 _ => 32 - (intOf v13).toNat)
  case atStart => exact ⟨0, s, by omega, by omega, rfl, LS.out, SL.out, by simp [Nat.mod_one], O4.out, B4.out⟩
  case round =>
    obtain ⟨i, ts, hi, hki, rfl, hl, ht, hle, hown, hB⟩ := hrel
    by_cases hlt : i < 32 ∧ k + i < 8 * L
    · obtain ⟨i32, kL⟩ := hlt
      have kLi : decide ((k : Int) + i < 8 * L) = true := by simp; omega
      have sw := SW.out i
      rcases Nat.mod_two_eq_zero_or_one (mask / 2 ^ i) with hb | hb
      · rw [hb] at sw
        have HLE := Lib.hid hle
        have HO := Lib.hid hown
        have HT := Lib.hid ht
        have HB := Lib.hid hB
        have HL := Lib.hid hl
        have HBB := Lib.hid hb
        clear hle hown ht hB hl hb
        go_wp2
        go_roundw
        case rel =>
          refine ⟨i + 1, ts, by omega, by omega, by go_num, HL.out, HT.out, ?_, HO.out, HB.out⟩
          rw [Nat.mod_pow_succ, HBB.out, Nat.mul_zero, Nat.add_zero]
          exact HLE.out
        case measure => simp [intOf]; omega
      · rw [hb] at sw
        obtain ⟨j, hj⟩ : ∃ j, (k + i) / 8 = j := ⟨_, rfl⟩
        obtain ⟨b, hbd⟩ : ∃ b, (k + i) % 8 = b := ⟨_, rfl⟩
        have jL : j < L := by omega
        have b8 : b < 8 := by omega
        have hji : ((k : Int) + i) / 8 = (j : Int) := by omega
        have hbi : ((k : Int) + i) % 8 = (b : Int) := by omega
        have jc : j < ts.length := by omega
        have c1 := hown.cellAt j (by omega)
        have c1' : wr.cell? ⟨g, j, none⟩ = some (.int .u8 (Pl.nth ts j)) := by rw [c1]; simp [Pl.nth, jc, bv]
        have f1 := hown.frozenAt j
        have p8 : 2 ^ b < 256 := by have := Nat.pow_lt_pow_right (a := 2) (by omega) b8; omega
        have x8 := u8_xor_nat (Pl.nth ts j) (2 ^ b) (by have := ht _ (List.getElem_mem jc); simpa [Pl.nth, jc] using this) p8
        have e2 : 8 * j + b = k + i := by omega
        have HLE := Lib.hid hle
        have HO := Lib.hid hown
        have HT := Lib.hid ht
        have HB := Lib.hid hB
        have HL := Lib.hid hl
        have HBB := Lib.hid hb
        have X8 := Lib.hid x8
        have P8 := Lib.hid p8
        have E2 := Lib.hid e2
        clear hle hown ht hB hl hb c1 x8 p8 e2 hj hbd
        go_wp2
        refine wp_region_still_tail 19 (by kernel_rfl) (by kernel_rfl) ?_
        simp only [List.take_succ_cons, List.take_zero, List.drop_succ_cons, List.drop_zero]
        change wpStill _ _ wr.drew _ _ _
        obtain ⟨p, hp⟩ : ∃ p : Nat, (p : Int) = (k : Int) + i := ⟨k + i, by omega⟩
        have g1 : IntKind.i64.wrap ((k : Int) + i) = (p : Int) := by rw [hp]; exact IntWalk.i64_in _ ⟨by omega, by omega⟩
        have g2 : (p : Int).tdiv 8 = (j : Int) := by rw [Int.tdiv_eq_ediv_of_nonneg (by omega)]; omega
        have g3 : (p : Int).tmod 8 = (b : Int) := by rw [Int.tmod_eq_emod_of_nonneg (by omega)]; omega
        have g4 : IntKind.i64.wrap (j : Int) = (j : Int) := IntWalk.i64_in _ ⟨by omega, by omega⟩
        have g5 : IntKind.i64.wrap (b : Int) = (b : Int) := IntWalk.i64_in _ ⟨by omega, by omega⟩
        clear hp hji hbi
        repeat still_step
        refine wpStill_nil ?_
        change wpList _ _ _ _ _ wr.drew
        go_wp2
        go_roundw
        case rel =>
          have pw : ((2 : Int) ^ b % 256) = ((2 ^ b : Nat) : Int) := by
            have := P8.out
            rw [show ((2 : Int) ^ b) = ((2 ^ b : Nat) : Int) by simp]
            generalize (2 : Nat) ^ b = z at this ⊢
            omega
          rw [pw, X8.out]
          have hst := HO.out.stored j (bv (Pl.nth ts j ^^^ 2 ^ b))
          rw [← List.map_set] at hst
          refine ⟨i + 1, ts.set j (Pl.nth ts j ^^^ 2 ^ b), by omega, by omega, by go_num, by rw [List.length_set]; exact HL.out, ?_, ?_, hst.1, (HB.out.setCell (p := ⟨g, j, none⟩) (HO.out.lt g rfl).1 _).drew⟩
          · intro x hx
            rcases List.mem_or_eq_of_mem_set hx with h | rfl
            · exact HT.out x h
            · exact Nat.xor_lt_two_pow (n := 8) (by have := HT.out _ (List.getElem_mem jc); simpa [Pl.nth, jc] using this) P8.out
          · have h1 := Cr.le_set ts j (2 ^ b) jc HT.out P8.out
            rw [mask_step k mask i HBB.out, ← Nat.xor_assoc, ← HLE.out, ← E2.out, Nat.pow_add]
            exact h1
        case measure => simp [intOf]; omega
    · have hB2 := Lib.hid (show Lex.Up w wr from B3.out.trans hB)
      obtain ⟨M, hM⟩ : ∃ M, mask % 2 ^ i = M := ⟨_, rfl⟩
      have M32 : M < 4294967296 := by
        have h1 : mask % 2 ^ i < 2 ^ i := Nat.mod_lt _ (Nat.two_pow_pos i)
        have h2 : 2 ^ i ≤ 2 ^ 32 := Nat.pow_le_pow_right (by omega) hi
        omega
      have hlL := LS.out
      have key : Cr.opens ts = true → ts = s := fun h => by
        have hz := Cr.burst (m := M) (k := k) SL.out ht (by omega) M32 (by rw [hle, hM]) (by omega) OS.out h
        rw [hM, hz, Nat.mul_zero, Nat.xor_zero] at hle
        exact Cr.le_inj s ts SL.out ht (by omega) hle
      have St := Lib.hid (by have := slc_of_own (xs := ts) (cap := c4) (A := some ⟨g, 0, none⟩) (by rw [hl]; exact hown) ht; rw [hl] at this; exact this)
      have Ss := Lib.hid (S2b.out.below hB)
      have HT := Lib.hid ht
      have C := Lib.hid (CT.out _ _ _ _ _ St.out)
      have TT := Lib.hid (show ts ≠ s → Fr.takeF ts = (Fr.zero, 4) from fun hne => Fr.take_shut (by omega) (by
        rcases h : Cr.opens ts with _ | _
        · rfl
        · exact absurd (key h) hne))
      have hw : (i = 32 ∧ (i : Int) = 32) ∨ (i < 32 ∧ decide ((k : Int) + i < 8 * L) = false) := by
        rcases Nat.lt_or_ge i 32 with h | h
        · right; refine ⟨h, ?_⟩; simp; omega
        · left; omega
      have hse := str_eq HT.out SL.out
      clear hle hM hown hB ht hl key hlL hlt CT
      obtain ⟨R, hR⟩ : ∃ R, Fr.takeF ts = R := ⟨_, rfl⟩
      rw [hR] at C TT
      have TR := Lib.hid (show ts = s → R = (x, 0) from fun h => by rw [← hR, h]; exact TP.out)
      clear hR
      obtain ⟨b, hb⟩ : ∃ b, decide (ts = s) = b := ⟨_, rfl⟩
      rw [hb] at hse
      have HBd := Lib.hid hb
      clear hb
      rcases hw with ⟨rfl, -⟩ | ⟨i32, kLi⟩
      all_goals
        go_wp2_with fail
        refine C.out.mono ?_
        rintro e w5 ⟨A5, c5, rfl, ho5, hb5⟩
        have hua := up_blk (cs := R.1.cells (.slice A5 R.1.es.length c5)) (t := 26) hb5
        have hB5 := Lib.hid (show Lex.Up w (w5.alloc (.cells (R.1.cells (.slice A5 R.1.es.length c5)) 26)) from Lex.Up.trans hB2.out hua)
        have KG := Lib.hid (Blk.new w5 (R.1.cells (.slice A5 R.1.es.length c5)) 26)
        have SG := Lib.hid (ho5.sl_of.2.up (up_blk (cs := R.1.cells (.slice A5 R.1.es.length c5)) (t := 26) (Lex.Up.refl w5)))
        have d1 := conv_slc (Ss.out.below hua)
        have d2 := conv_slc (St.out.below hua)
        clear ho5 hb5 hua C
        simp only [Fr.val]
        go_upto_region 14 with (fail)
        refine wp_named (fun W6 hW => ?_)
        have hW' : W6 = w5.alloc (.cells (R.1.cells (.slice A5 R.1.es.length c5)) 26) := hW
        rw [← hW'] at KG SG hB5 d1 d2
        clear hW hW'
        cases b
        · have hT := TT.out (of_decide_eq_false HBd.out)
          subst hT
          have CC := Lib.hid (CS.out Fr.zero Fr.zero A5 none _ 0 c5 0 _ SG.out (EvSl.none _))
          rw [decide_eq_true rfl] at CC
          obtain ⟨q0, q1', q2', q3, q4, q5, q6, q7, q8⟩ := KG.out.fr
          clear TT TR KG SG CS
          go_wp2_with fail
          refine CC.out.mono ?_
          rintro e w7 ⟨rfl, hb7⟩
          have B7 := Lib.hid (hB5.out.trans hb7)
          clear hb7 CC q0 q1' q2' q3 q4 q5 q6 q7 q8 d1 d2
          go_wp2
          go_ret
          exact ⟨rfl, B7.out⟩
        · have hT := TR.out (of_decide_eq_true HBd.out)
          subst hT
          clear TT TR KG SG CS
          go_wp2
          go_ret
          exact ⟨rfl, hB5.out⟩
end Go.Proofs.Ytldhmpngehlnhaa
