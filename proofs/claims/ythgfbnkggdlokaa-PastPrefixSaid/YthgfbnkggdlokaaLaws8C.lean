/-
  The walk of PastPrefix.
-/
import Derived.Test.YthgfbnkggdlokaaLaws8A
import Derived.Test.YthgfbnkggdlokaaPstW
import Derived.Test.YthgfbnkggdlokaaEvBl
namespace Go.Proofs.Ythgfbnkggdlokaa
open Go.RowKit
set_option maxRecDepth 100000
set_option maxRecDepth 100000

theorem EvSl.blk {w : World} {b off n cap : Nat} {es : List Ev} (h : EvSl w (some ⟨b, off, Option.none⟩) n cap es) (h0 : 0 < n) : b < w.heap.size := by
  obtain ⟨b', off', e, hb, _⟩ := h.2.2.2 h0
  obtain ⟨rfl, rfl⟩ : b = b' ∧ off = off' := by simpa using e
  exact hb
def PfxRel (es : List Ev) (x : Ev) (B : Nat) (W : World) (v8 v9 : Value) (wr : World) : Prop :=
  ∃ i : Nat, i ≤ es.length ∧ v9 = .int .i64 i ∧ Hid (wr.ownsRow B 51 12 v8 ((es.take i).filter (Pst.dn x)).length (evc ((es.take i).filter (Pst.dn x)))) ∧ Hid (Lex.Up W wr)

set_option maxHeartbeats 8000000 in
theorem law_prefix (A : Option Addr) (n cap : Nat) (cs : List Ch) (at_ : Nat) (w : World) (hs : ChSl w A n cap cs) (hok : ∀ c ∈ cs, Ch.Ok c) (ha : at_ < 256) :
    Calls Try.prog 8 #[.slice A n cap, .int .u8 at_] w fun e w' => e = .returned (.bool true) ∧ Below w.heap.size w w' := by
  go_enter Try.func8, Try.ntmps8
  go_wp2_with fail
  refine (shown_any _).mono ?_
  rintro x w1 ⟨rfl, h1⟩
  have SC := Lib.hid (hs.up h1)
  have U1 := Lib.hid h1
  clear h1
  go_wp2_with fail
  refine (short_any A n cap _ cs SC.out).mono ?_
  rintro x w2 ⟨⟨m, hm, hmn, rfl⟩, rfl⟩
  go_wp2_with fail
  refine (make_any (cs.take m) A m cap _ (SC.out.take hmn) (fun c hc => hok c (List.mem_of_mem_take hc)) (by omega)).mono ?_
  rintro x w3 ⟨⟨es, H, v3, rfl, hmd, hlen, hown⟩, h3⟩
  obtain ⟨A3, cap3, rfl, hS⟩ := Sl.of_own hown
  have U3 := Lib.hid (show Lex.Up w w3 from U1.out.trans h3)
  have SE := Lib.hid (show EvSl w3 A3 es.length cap3 es from hS)
  have MD := Lib.hid hmd
  have R := Lib.hid (Pst.made_right hmd (by omega))
  have hN : es.length ≤ 40 := by omega
  clear hmd hown hS h3 SC U1
  have O := Lib.hid (Pst.made_ord MD.out (by omega))
  have CB := Lib.hid (fun a b w => below_any a b w)
  clear MD hs hok
  by_cases h0 : es.length = 0
  · go_wp2
    go_ret
    exact ⟨rfl, U3.out⟩
  have hpos : 0 < es.length := by omega
  obtain ⟨b, off, rfl⟩ := SE.out.addr hpos
  have hcapS := SE.out.2.1
  have hcapM := SE.out.2.2.1
  obtain ⟨k, hk, hk5⟩ : ∃ k : Nat, ((at_ : Int)).tmod (es.length : Int) = (k : Int) ∧ k < es.length := ⟨at_ % es.length, by rw [Int.tmod_eq_emod_of_nonneg (by omega)]; simp, Nat.mod_lt _ hpos⟩
  have hk5' : (k : Int) < es.length := by omega
  have hn0 : ¬ ((es.length : Int) = 0) := by omega
  have hn1 : ((es.length : Int) == 0) = false := by simpa using h0
  obtain ⟨kt1, kt2⟩ := Pst.right_take R.out O.out k
  obtain ⟨kd1, kd2⟩ := Pst.right_dn R.out O.out (Pst.nth_mem hk5)
  have DA := Lib.hid (fun i hi => Pst.dn_at R.out (i := i) (k := k) hi hk5)
  have FT := Lib.hid (fun i hi => Pst.filter_take (es := es) (Pst.dn (Ev.nth es k)) (i := i) hi)
  have FL := Lib.hid (fun i => Pst.filter_len (es := es) (Pst.dn (Ev.nth es k)) i)
  have FE := Lib.hid (show (es.take es.length).filter (Pst.dn (Ev.nth es k)) = es.filter (Pst.dn (Ev.nth es k)) by rw [List.take_length])
  have KT1 := Lib.hid kt1; have KT2 := Lib.hid kt2; have KD1 := Lib.hid kd1; have KD2 := Lib.hid kd2
  have EK := Lib.hid (fun w' (hu : Lex.Up w3 w') => ev_at (SE.out.up hu) hk5)
  generalize hgk : Ev.nth es k = c at *
  have O0 := Lib.hid (World.ownsRow_made (base := w3.heap.size) (e := 51) (size := 12) w3 #[] 0 (Nat.le_refl _) (Nat.zero_le _) rfl)
  have U4 := Lib.hid (show Lex.Up w3 (w3.alloc (.cells #[] 51)) from (Below.refl _ _).alloc (Nat.le_refl _) _)
  clear kt1 kt2 kd1 kd2 R O h0 hgk
  go_wp2
  go_loopw [8, 9] (fun v8 v9 wr => PfxRel es c w3.heap.size w3 v8 v9 wr) (fun _ v _ => es.length - (intOf v).toNat)
  case atStart => exact ⟨0, by omega, rfl, by simpa [evc] using O0, U4⟩
  case round =>
    obtain ⟨i, hi, rfl, OW, UI⟩ := hrel
    obtain ⟨A8, cap8, rfl, SX8⟩ := Sl.of_own OW.out
    have S8 := Lib.hid SX8
    clear SX8 O0 U4
    by_cases hi5 : i < es.length
    · have hi5' : (i : Int) < es.length := by omega
      have EI := Lib.hid (fun w' (hu : Lex.Up w3 w') => ev_at (SE.out.up hu) hi5)
      have D := Lib.hid (DA.out i hi5)
      have F := Lib.hid (FT.out i hi5)
      have fl := FL.out i
      generalize (es.take i).filter (Pst.dn c) = D0 at *
      generalize hga : Ev.nth es i = a at *
      have B1 := Lib.hid (fun w' => CB.out a c w')
      unfold Ev.val at B1
      generalize Ck.has c.c a.r a.n = q at *
      clear hga CB DA FT FL FE S8
      obtain ⟨z, hz⟩ : ∃ z, Pst.dn c a = z := ⟨_, rfl⟩
      rw [hz] at D F
      clear hz
      go_upto_region 10 with (fail)
      go_cut [43] (fun v43 wx => v43 = .bool z ∧ Hid (Lex.Up wr wx))
      case first =>
        by_cases hik : i = k
        · subst hik
          have hd : ((i : Int) == (i : Int)) = true := by simp
          have hz : z = true := by rw [D.out]; simp
          subst hz
          refine Lex.wp_region_lex (by kernel_rfl) (by kernel_rfl) (by rfl) ?_
          repeat (first | (refine Lex.lex_skip (by rfl) (by rfl) (by rfl) ?_; simp only [Act.put, List.setIfInBounds_toArray, List.set_cons_zero, List.set_cons_succ]) | (refine Lex.lex_pure (c := ?_) (by rfl) (by rfl) (fun w' hC => ?_) (by rfl) ?_; rotate_left 1; (go_simp; rfl); simp only [Act.put, List.setIfInBounds_toArray, List.set_cons_zero, List.set_cons_succ]))
          refine Lex.lex_nil (fun w7 hC => ?_)
          simp only [Lex.fill]
          go_wp2_with fail
          go_meet
          exact ⟨rfl, Lib.hid hC⟩
        · have hd : ((i : Int) == (k : Int)) = false := by simp; omega
          have hz : z = q := by rw [D.out]; simp [hik]
          subst hz
          refine Lex.wp_region_lex (by kernel_rfl) (by kernel_rfl) (by rfl) ?_
          repeat (first | (refine Lex.lex_skip (by rfl) (by rfl) (by rfl) ?_; simp only [Act.put, List.setIfInBounds_toArray, List.set_cons_zero, List.set_cons_succ]) | (refine Lex.lex_pure (c := ?_) (by rfl) (by rfl) (fun w' hC => ?_) (by rfl) ?_; rotate_left 1; (obtain ⟨e0, e1, e2, e3, e4, e5, e6, e7, e8, e9, e10, e11⟩ := EI.out w' (UI.out.trans hC); obtain ⟨f0, f1, f2, f3, f4, f5, f6, f7, f8, f9, f10, f11⟩ := EK.out w' (UI.out.trans hC); go_simp; rfl); simp only [Act.put, List.setIfInBounds_toArray, List.set_cons_zero, List.set_cons_succ]))
          refine Lex.lex_callv (.bool z) (by rfl) (by rfl) (fun w' => by go_simp) (fun w' hC => B1.out w') (by rfl) ?_
          simp only [Act.put, List.setIfInBounds_toArray, List.set_cons_zero, List.set_cons_succ]
          repeat (first | (refine Lex.lex_skip (by rfl) (by rfl) (by rfl) ?_; simp only [Act.put, List.setIfInBounds_toArray, List.set_cons_zero, List.set_cons_succ]) | (refine Lex.lex_pure (c := ?_) (by rfl) (by rfl) (fun w' hC => ?_) (by rfl) ?_; rotate_left 1; (go_simp; rfl); simp only [Act.put, List.setIfInBounds_toArray, List.set_cons_zero, List.set_cons_succ]))
          refine Lex.lex_nil (fun w7 hC => ?_)
          simp only [Lex.fill]
          go_wp2_with fail
          go_meet
          exact ⟨rfl, Lib.hid hC⟩
      case rest =>
        obtain ⟨rfl, UC⟩ := hcut
        have OC := Lib.hid (own_up OW.out UC.out)
        have U5 := Lib.hid (UI.out.trans UC.out)
        clear OW UC UI B1 D
        cases z
        · have F2 := Lib.hid (show (es.take (i + 1)).filter (Pst.dn c) = D0 by rw [F.out]; simp)
          clear F
          go_wp2
          go_roundw
          case rel => exact ⟨i + 1, by omega, by go_num, by rw [F2.out]; exact OC, U5⟩
          case measure => simp [intOf]; omega
        · have F2 := Lib.hid (show (es.take (i + 1)).filter (Pst.dn c) = D0 ++ [a] by rw [F.out]; simp)
          clear F
          obtain ⟨e0, e1, e2, e3, e4, e5, e6, e7, e8, e9, e10, e11⟩ := EI.out wc U5.out
          have SX := Lib.hid (show Sl (wc.alloc (.cells a.cells 51)) 12 (some ⟨wc.heap.size, 0, none⟩) 1 1 (evc [a]) from evFact_sl (Blk.new wc a.cells _))
          have O6 := Lib.hid (OC.out.alloc (.cells a.cells 51))
          have U6 := Lib.hid (U5.out.alloc U5.out.size (.cells a.cells 51))
          have OB := Lib.hid (own_base OC.out)
          have Z6 : w3.heap.size ≤ (wc.alloc (.cells a.cells 51)).heap.size := U6.out.size
          go_wp2_with (at_builtin; refine ESe.wpList_append (by rfl) _ _ rfl w3.heap.size _ D0.length (evc D0) rfl O6.out (some ⟨wc.heap.size, 0, none⟩) 1 1 (evc [a]) rfl SX.out (evc_one' _) (by omega) (by simp only [maxLen]; omega) Z6 ?_)
          intro v9 w9 hown hg
          have O9 := Lib.hid (show w9.ownsRow w3.heap.size 51 12 v9 (D0 ++ [a]).length (evc (D0 ++ [a])) by rw [evc_append, List.length_append]; exact hown)
          have U9 := Lib.hid (show Lex.Up w3 w9 from Below.grown U6.out hg Z6 OB.out)
          clear hown hg O6 U6 OB Z6 SX OC U5 e0 e1 e2 e3 e4 e5 e6 e7 e8 e9 e10 e11
          go_wp2
          go_roundw
          case rel => exact ⟨i + 1, by omega, by go_num, by rw [F2.out]; exact O9, U9⟩
          case measure => simp [intOf]; omega
    · obtain rfl : i = es.length := by omega
      rw [FE.out] at S8
      have fl := FL.out es.length
      rw [FE.out] at fl
      obtain ⟨D0, hD0⟩ : ∃ D0, (es.take es.length).filter (Pst.dn c) = D0 := ⟨_, rfl⟩
      have hD1 : es.filter (Pst.dn c) = D0 := by rw [← FE.out]; exact hD0
      rw [hD1] at S8 KD1 KD2 fl
      have e1 := hD0
      have SD := Lib.hid (show EvSl wr A8 D0.length cap8 D0 from S8.out)
      have ST := Lib.hid (show EvSl wr (some ⟨b, off, none⟩) k cap3 (es.take k) from (SE.out.up UI.out).take (Nat.le_of_lt hk5))
      have C1 := Lib.hid (fun w' (hu : Lex.Up wr w') => right_yes (es.take k) _ k cap3 w' (ST.out.up hu) KT1.out)
      have C2 := Lib.hid (fun w' (hu : Lex.Up wr w') => ordered_yes (es.take k) _ k cap3 w' (ST.out.up hu) (by omega) KT2.out)
      have C3 := Lib.hid (fun w' (hu : Lex.Up wr w') => right_yes D0 _ D0.length cap8 w' (SD.out.up hu) KD1.out)
      have C4 := Lib.hid (fun w' (hu : Lex.Up wr w') => ordered_yes D0 _ D0.length cap8 w' (SD.out.up hu) (by omega) KD2.out)
      have mc : (k : Int) ≤ cap3 := by omega
      rw [hD0]
      clear CB DA FT FL FE S8 hD0 hD1 e1 SD ST OW KT1 KT2 KD1 KD2 EK
      go_wp2_with fail
      refine (C1.out _ (Lex.Up.refl _)).mono ?_
      rintro x w4 ⟨rfl, u1⟩
      have V1 := Lib.hid u1; clear u1
      go_wp2_with fail
      refine (C2.out _ V1.out).mono ?_
      rintro x w5 ⟨rfl, u1⟩
      have V2 := Lib.hid (V1.out.trans u1); clear u1
      go_wp2_with fail
      refine (C3.out _ V2.out).mono ?_
      rintro x w6 ⟨rfl, u1⟩
      have V3 := Lib.hid (V2.out.trans u1); clear u1
      go_wp2_with fail
      refine (C4.out _ V3.out).mono ?_
      rintro x w7 ⟨rfl, u1⟩
      have V4 := Lib.hid (V3.out.trans u1); clear u1
      go_wp2
      go_ret
      exact ⟨rfl, U3.out.trans (UI.out.trans V4.out)⟩
end Go.Proofs.Ythgfbnkggdlokaa
