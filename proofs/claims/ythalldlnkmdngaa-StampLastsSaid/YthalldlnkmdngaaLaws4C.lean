/-
  The walk of StampLasts.
-/
import Derived.Test.YthalldlnkmdngaaLaws4B
import Derived.Test.YthalldlnkmdngaaRun
namespace Go.Proofs.Ythalldlnkmdngaa
open Go.RowKit
attribute [local go_sem ↓] Go.wp_at_zero Go.wp_at_succ

theorem elemS : Elem Try.prog 24 23 (.agg #[.int .i64 0, .int .i64 0]) 2 16 := ⟨Try.underlying24, by kernel_rfl, by decide, by decide⟩
theorem Stp.flat_one (xs : List Stp) : ∀ u ∈ Stp.flat xs, u.oneCell' = true := fun u hu => by
  simp only [Stp.flat, List.mem_flatMap] at hu
  obtain ⟨x, _, hx⟩ := hu
  simp at hx
  rcases hx with rfl | rfl <;> rfl

def LastsRel (w : World) (n : Nat) (v : Value) (W : World) : Prop := ∃ j : Nat, j ≤ n ∧ v = .int .i64 j ∧ Lex.Up w W
set_option maxRecDepth 100000 in
set_option maxHeartbeats 1000000 in
theorem law_lasts (A : Option Addr) (n cap : Nat) (xs : List Stp) (B : Option Addr) (m bap : Nat) (ys : List Stp) (w : World) (hx : Sl w 2 A n cap (Stp.flat xs)) (hy : Sl w 2 B m bap (Stp.flat ys)) :
    Calls Try.prog 5 #[.slice A n cap, .slice B m bap] w fun e w' => e = .returned (.bool true) ∧ Below w.heap.size w w' := by
  have C0 := Lib.hid (fun w => shown_any w)
  have FX := Lib.hid (fun w => few_val A n cap w hx.2.1)
  have FY := Lib.hid (fun w => few_val B m bap w hy.2.1)
  have SX := Lib.hid (few_stp hx)
  have SY := Lib.hid (few_stp hy)
  have hlx : (xs.take 30).length = min n 30 := by have := hx.1; rw [Stp.flat_length] at this; rw [List.length_take]; omega
  have hly : (ys.take 30).length = min m 30 := by have := hy.1; rw [Stp.flat_length] at this; rw [List.length_take]; omega
  clear hx hy
  have nx : min n 30 ≤ 30 := Nat.min_le_right _ _
  have ny : min m 30 ≤ 30 := Nat.min_le_right _ _
  generalize xs.take 30 = us at *
  generalize ys.take 30 = vs at *
  rw [← hlx] at FX SX nx
  rw [← hly] at FY SY ny
  clear hlx hly
  have CL := Lib.hid (fun a b w => less_any a b w)
  have CA := Lib.hid (fun A cap xs w h => last_any A cap xs w h)
  have ES := Lib.hid elemS
  unfold Stp.val at *
  go_enter Try.func5, Try.ntmps5
  go_wp2_with fail
  refine (C0.out _).mono ?_
  rintro e w1 ⟨rfl, hb1⟩
  have U1 := Lib.hid (show Lex.Up w w1 from hb1); clear hb1
  go_wp2_with fail
  refine (FX.out _).mono ?_
  rintro e w2 ⟨rfl, hb2⟩
  have U2 := Lib.hid (U1.out.trans hb2); clear hb2 U1
  go_wp2_with fail
  refine (FY.out _).mono ?_
  rintro e w3 ⟨rfl, hb3⟩
  have U3 := Lib.hid (U2.out.trans hb3); clear hb3 U2
  have SX3 := Lib.hid (SX.out.up U3.out); have SY3 := Lib.hid (SY.out.up U3.out)
  go_wp2_with fail
  refine (CA.out A cap us _ SX3.out).mono ?_
  rintro e w4 ⟨rfl, hb4⟩
  have U4 := Lib.hid (U3.out.trans hb4); have SX4 := Lib.hid (SX3.out.up hb4); have SY4 := Lib.hid (SY3.out.up hb4); clear hb4 U3 SX3 SY3
  go_wp2_with fail
  refine (CA.out B bap vs _ SY4.out).mono ?_
  rintro e w5 ⟨rfl, hb5⟩
  have U5 := Lib.hid (U4.out.trans hb5); have SX5 := Lib.hid (SX4.out.up hb5); have SY5 := Lib.hid (SY4.out.up hb5); clear hb5 U4 SX4 SY4
  have O0 := Lib.hid (World.ownsRow_made (base := w.heap.size) (e := 23) (size := 2) w5 #[] 0 U5.out.size (Nat.zero_le _) rfl)
  have u6 : Lex.Up w (w5.alloc (.cells #[] 23)) := U5.out.alloc U5.out.size _
  have SX6 := Lib.hid (SX.out.up u6)
  go_wp2_with (at_builtin; refine ES.out.wpList_append (by rfl) _ _ rfl w.heap.size (.slice (some ⟨w5.heap.size, 0, none⟩) 0 0) 0 [] rfl O0.out A us.length cap (Stp.flat us) rfl SX6.out (Stp.flat_one us) (by omega) (by simp [maxLen]; omega) (by simp; have := U5.out.size; omega) ?_)
  intro v6 w6 hown6 hg6
  have U6 := Lib.hid (up_grown u6 O0.out hg6)
  have O6 := Lib.hid (show w6.ownsRow w.heap.size 23 2 v6 us.length (Stp.flat us) by simpa using hown6)
  have SY6 := Lib.hid (SY.out.up U6.out)
  clear hown6 hg6 u6
  go_wp2_with (at_builtin; refine ES.out.wpList_append (by rfl) _ _ rfl w.heap.size v6 us.length (Stp.flat us) rfl O6.out B vs.length bap (Stp.flat vs) rfl SY6.out (Stp.flat_one vs) (by omega) (by simp only [maxLen]; omega) U6.out.size ?_)
  intro v7 w7 hown7 hg7
  have U7 := Lib.hid (up_grown U6.out O6.out hg7)
  rw [← Stp.flat_append] at hown7
  obtain ⟨D, dap, rfl, SD⟩ := Sl.of_own hown7
  have hl : us.length + vs.length = (us ++ vs).length := by simp
  rw [hl] at SD ⊢
  obtain ⟨zs, hz⟩ : ∃ zs, us ++ vs = zs := ⟨_, rfl⟩
  rw [hz] at SD ⊢
  have HZ := Lib.hid hz
  have HD := Lib.hid SD
  clear hown7 hg7 SD hl hz U6 O6 SY6 U5 SX5 SY5 O0 SX6
  go_wp2_with fail
  refine (CA.out D dap zs _ HD.out).mono ?_
  rintro e w8 ⟨rfl, hb8⟩
  have U8 := Lib.hid (U7.out.trans hb8); clear hb8 U7 HD
  by_cases hx0 : 0 < us.length
  · obtain ⟨i, hi, e1, e2, e3⟩ := Stp.last_spec hx0
    have LA := Lib.hid (Stp.last_append (ys := vs) hx0)
    have E2 := Lib.hid e2; have E3 := Lib.hid e3; have EI := Lib.hid e1
    have MX := Lib.hid (fun j h => Stp.mx_max (xs := us) (j := j) h)
    obtain ⟨b, off, rfl, hbl, hcell⟩ := SX.out.2.2.2 hx0
    clear hcell e2 e3
    rw [e1]
    clear e1
    have n0 : ((us.length : Int) == 0) = false := beq_eq_false_iff_ne.2 (by omega)
    have n1 : ((i : Int) == -1) = false := beq_eq_false_iff_ne.2 (by omega)
    have hi' : (i : Int) < us.length := by omega
    by_cases hy0 : 0 < vs.length
    · obtain ⟨k, hk, f1, f2, f3⟩ := Stp.last_spec hy0
      have F2 := Lib.hid f2; have FK := Lib.hid f1
      clear f2 f3
      rw [f1]
      clear f1
      have m0 : ((vs.length : Int) == 0) = false := beq_eq_false_iff_ne.2 (by omega)
      have m1 : ((k : Int) == -1) = false := beq_eq_false_iff_ne.2 (by omega)
      obtain ⟨b2, off2, rfl, hbl2, hcell⟩ := SY.out.2.2.2 hy0
      clear hcell
      have hk' : (k : Int) < vs.length := by omega
      go_wp2
      go_loopw [11] (fun v W => LastsRel w us.length v W) (fun v _ => us.length - (intOf v).toNat)
      case atStart => exact ⟨0, Nat.zero_le _, rfl, U8.out⟩
      case round =>
        clear U8
        obtain ⟨j, hj, rfl, hU⟩ := hrel
        have UR := Lib.hid hU; clear hU
        by_cases hjl : j < us.length
        · have SA := Lib.hid (fun w' (h : Lex.Up wr w') => by have := stp_at SX.out (UR.out.trans h) hi; rwa [E2.out] at this)
          have SJ := Lib.hid (fun w' (h : Lex.Up wr w') => stp_at SX.out (UR.out.trans h) hjl)
          have CM := Lib.hid (fun w => by have := CL.out (Stp.mx us) (Stp.nth us j) w; rwa [MX.out j hjl] at this)
          have NE := Lib.hid (fun h : j < i => E3.out j h)
          have Q := Lib.hid (fun w => eq_two (Stp.nth us j) (Stp.mx us) w)
          generalize Stp.mx us = x at *
          generalize Stp.nth us j = y at *
          go_wp2
          by_cases hji : j < i
          · have hji' : (j : Int) < i := by omega
            have hq : ∀ w, _ := fun w => Q.out w
            rw [decide_eq_false (NE.out hji)] at hq
            refine Lex.wp_region_lex (by kernel_rfl) (by kernel_rfl) (by rfl) ?_
            repeat (first | (refine Lex.lex_skip (by rfl) (by rfl) (by rfl) ?_; simp only [Act.put, List.setIfInBounds_toArray, List.set_cons_zero, List.set_cons_succ]) | (refine Lex.lex_pure (c := ?_) (by rfl) (by rfl) (fun w' hC => ?_) (by rfl) ?_; rotate_left 1; (have ⟨a0, a1⟩ := SA.out w' hC; have ⟨b0, b1⟩ := SJ.out w' hC; go_simp; rfl); simp only [Act.put, List.setIfInBounds_toArray, List.set_cons_zero, List.set_cons_succ]))
            refine Lex.lex_callv (f := 9) (args := #[.agg #[.int .i64 x.h, .int .i64 x.r], .agg #[.int .i64 y.h, .int .i64 y.r]]) (.bool false) (by rfl) (by rfl) (fun w' => by go_simp) (fun w' hC => CM.out w') (by rfl) ?_
            simp only [Act.put, List.setIfInBounds_toArray, List.set_cons_zero, List.set_cons_succ]
            repeat (first | (refine Lex.lex_skip (by rfl) (by rfl) (by rfl) ?_; simp only [Act.put, List.setIfInBounds_toArray, List.set_cons_zero, List.set_cons_succ]) | (refine Lex.lex_pure (c := ?_) (by rfl) (by rfl) (fun w' hC => ?_) (by rfl) ?_; rotate_left 1; (have ⟨a0, a1⟩ := SA.out w' hC; have ⟨b0, b1⟩ := SJ.out w' hC; go_simp; rfl); simp only [Act.put, List.setIfInBounds_toArray, List.set_cons_zero, List.set_cons_succ]))
            refine Lex.lex_nil (fun w9 hC => ?_)
            simp only [Lex.fill]
            have U9 := Lib.hid (UR.out.trans hC)
            clear hC SA SJ CM hq UR
            go_wp2
            go_roundw
            case rel => exact ⟨j + 1, by omega, by go_num, U9.out⟩
            case measure => simp [intOf]; omega
          · have hji' : ¬ (j : Int) < i := by omega
            refine Lex.wp_region_lex (by kernel_rfl) (by kernel_rfl) (by rfl) ?_
            repeat (first | (refine Lex.lex_skip (by rfl) (by rfl) (by rfl) ?_; simp only [Act.put, List.setIfInBounds_toArray, List.set_cons_zero, List.set_cons_succ]) | (refine Lex.lex_pure (c := ?_) (by rfl) (by rfl) (fun w' hC => ?_) (by rfl) ?_; rotate_left 1; (have ⟨a0, a1⟩ := SA.out w' hC; have ⟨b0, b1⟩ := SJ.out w' hC; go_simp; rfl); simp only [Act.put, List.setIfInBounds_toArray, List.set_cons_zero, List.set_cons_succ]))
            refine Lex.lex_callv (f := 9) (args := #[.agg #[.int .i64 x.h, .int .i64 x.r], .agg #[.int .i64 y.h, .int .i64 y.r]]) (.bool false) (by rfl) (by rfl) (fun w' => by go_simp) (fun w' hC => CM.out w') (by rfl) ?_
            simp only [Act.put, List.setIfInBounds_toArray, List.set_cons_zero, List.set_cons_succ]
            repeat (first | (refine Lex.lex_skip (by rfl) (by rfl) (by rfl) ?_; simp only [Act.put, List.setIfInBounds_toArray, List.set_cons_zero, List.set_cons_succ]) | (refine Lex.lex_pure (c := ?_) (by rfl) (by rfl) (fun w' hC => ?_) (by rfl) ?_; rotate_left 1; (have ⟨a0, a1⟩ := SA.out w' hC; have ⟨b0, b1⟩ := SJ.out w' hC; go_simp; rfl); simp only [Act.put, List.setIfInBounds_toArray, List.set_cons_zero, List.set_cons_succ]))
            refine Lex.lex_nil (fun w9 hC => ?_)
            simp only [Lex.fill]
            have U9 := Lib.hid (UR.out.trans hC)
            clear hC SA SJ CM UR
            go_wp2
            go_roundw
            case rel => exact ⟨j + 1, by omega, by go_num, U9.out⟩
            case measure => simp [intOf]; omega
        · obtain rfl : j = us.length := by omega
          have SA := Lib.hid (fun w' (h : Lex.Up wr w') => by have := stp_at SX.out (UR.out.trans h) hi; rwa [E2.out] at this)
          have SB := Lib.hid (fun w' (h : Lex.Up wr w') => by have := stp_at SY.out (UR.out.trans h) hk; rwa [F2.out] at this)
          have la := LA.out hy0
          rw [HZ.out, FK.out, EI.out] at la
          have CM := Lib.hid (fun w => CL.out (Stp.mx us) (Stp.mx vs) w)
          generalize Stp.mx us = x at *
          generalize Stp.mx vs = y at *
          generalize Stp.less x y = l at *
          go_wp2
          refine Lex.wp_region_lex (by kernel_rfl) (by kernel_rfl) (by rfl) ?_
          repeat (first | (refine Lex.lex_skip (by rfl) (by rfl) (by rfl) ?_; simp only [Act.put, List.setIfInBounds_toArray, List.set_cons_zero, List.set_cons_succ]) | (refine Lex.lex_pure (c := ?_) (by rfl) (by rfl) (fun w' hC => ?_) (by rfl) ?_; rotate_left 1; (have ⟨a0, a1⟩ := SA.out w' hC; have ⟨b0, b1⟩ := SB.out w' hC; go_simp; rfl); simp only [Act.put, List.setIfInBounds_toArray, List.set_cons_zero, List.set_cons_succ]))
          refine Lex.lex_callv (f := 9) (args := #[.agg #[.int .i64 x.h, .int .i64 x.r], .agg #[.int .i64 y.h, .int .i64 y.r]]) (.bool l) (by rfl) (by rfl) (fun w' => by go_simp) (fun w' hC => CM.out w') (by rfl) ?_
          simp only [Act.put, List.setIfInBounds_toArray, List.set_cons_zero, List.set_cons_succ]
          repeat (first | (refine Lex.lex_skip (by rfl) (by rfl) (by rfl) ?_; simp only [Act.put, List.setIfInBounds_toArray, List.set_cons_zero, List.set_cons_succ]) | (refine Lex.lex_pure (c := ?_) (by rfl) (by rfl) (fun w' hC => ?_) (by rfl) ?_; rotate_left 1; (go_simp; rfl); simp only [Act.put, List.setIfInBounds_toArray, List.set_cons_zero, List.set_cons_succ]))
          refine Lex.lex_nil (fun w9 hC => ?_)
          simp only [Lex.fill]
          have U9 := Lib.hid (UR.out.trans hC)
          clear hC SA SB CM
          cases l
          · rw [if_neg (by simp)] at la
            rw [la]
            go_wp2
            go_ret
            exact ⟨rfl, U9.out⟩
          · rw [if_pos rfl] at la
            rw [la]
            go_wp2
            go_ret
            exact ⟨rfl, U9.out⟩
    · have hv0 : vs = [] := List.eq_nil_of_length_eq_zero (by omega)
      subst hv0
      have hn : Stp.last [] = -1 := rfl
      have hz : us = zs := by have := HZ.out; rw [List.append_nil] at this; exact this
      subst hz
      rw [hn, EI.out]
      go_wp2
      go_loopw [11] (fun v W => LastsRel w us.length v W) (fun v _ => us.length - (intOf v).toNat)
      case atStart => exact ⟨0, Nat.zero_le _, rfl, U8.out⟩
      case round =>
        clear U8
        obtain ⟨j, hj, rfl, hU⟩ := hrel
        have UR := Lib.hid hU; clear hU
        by_cases hjl : j < us.length
        · have SA := Lib.hid (fun w' (h : Lex.Up wr w') => by have := stp_at SX.out (UR.out.trans h) hi; rwa [E2.out] at this)
          have SJ := Lib.hid (fun w' (h : Lex.Up wr w') => stp_at SX.out (UR.out.trans h) hjl)
          have CM := Lib.hid (fun w => by have := CL.out (Stp.mx us) (Stp.nth us j) w; rwa [MX.out j hjl] at this)
          have NE := Lib.hid (fun h : j < i => E3.out j h)
          have Q := Lib.hid (fun w => eq_two (Stp.nth us j) (Stp.mx us) w)
          generalize Stp.mx us = x at *
          generalize Stp.nth us j = y at *
          go_wp2
          by_cases hji : j < i
          · have hji' : (j : Int) < i := by omega
            have hq : ∀ w, _ := fun w => Q.out w
            rw [decide_eq_false (NE.out hji)] at hq
            refine Lex.wp_region_lex (by kernel_rfl) (by kernel_rfl) (by rfl) ?_
            repeat (first | (refine Lex.lex_skip (by rfl) (by rfl) (by rfl) ?_; simp only [Act.put, List.setIfInBounds_toArray, List.set_cons_zero, List.set_cons_succ]) | (refine Lex.lex_pure (c := ?_) (by rfl) (by rfl) (fun w' hC => ?_) (by rfl) ?_; rotate_left 1; (have ⟨a0, a1⟩ := SA.out w' hC; have ⟨b0, b1⟩ := SJ.out w' hC; go_simp; rfl); simp only [Act.put, List.setIfInBounds_toArray, List.set_cons_zero, List.set_cons_succ]))
            refine Lex.lex_callv (f := 9) (args := #[.agg #[.int .i64 x.h, .int .i64 x.r], .agg #[.int .i64 y.h, .int .i64 y.r]]) (.bool false) (by rfl) (by rfl) (fun w' => by go_simp) (fun w' hC => CM.out w') (by rfl) ?_
            simp only [Act.put, List.setIfInBounds_toArray, List.set_cons_zero, List.set_cons_succ]
            repeat (first | (refine Lex.lex_skip (by rfl) (by rfl) (by rfl) ?_; simp only [Act.put, List.setIfInBounds_toArray, List.set_cons_zero, List.set_cons_succ]) | (refine Lex.lex_pure (c := ?_) (by rfl) (by rfl) (fun w' hC => ?_) (by rfl) ?_; rotate_left 1; (have ⟨a0, a1⟩ := SA.out w' hC; have ⟨b0, b1⟩ := SJ.out w' hC; go_simp; rfl); simp only [Act.put, List.setIfInBounds_toArray, List.set_cons_zero, List.set_cons_succ]))
            refine Lex.lex_nil (fun w9 hC => ?_)
            simp only [Lex.fill]
            have U9 := Lib.hid (UR.out.trans hC)
            clear hC SA SJ CM hq UR
            go_wp2
            go_roundw
            case rel => exact ⟨j + 1, by omega, by go_num, U9.out⟩
            case measure => simp [intOf]; omega
          · have hji' : ¬ (j : Int) < i := by omega
            refine Lex.wp_region_lex (by kernel_rfl) (by kernel_rfl) (by rfl) ?_
            repeat (first | (refine Lex.lex_skip (by rfl) (by rfl) (by rfl) ?_; simp only [Act.put, List.setIfInBounds_toArray, List.set_cons_zero, List.set_cons_succ]) | (refine Lex.lex_pure (c := ?_) (by rfl) (by rfl) (fun w' hC => ?_) (by rfl) ?_; rotate_left 1; (have ⟨a0, a1⟩ := SA.out w' hC; have ⟨b0, b1⟩ := SJ.out w' hC; go_simp; rfl); simp only [Act.put, List.setIfInBounds_toArray, List.set_cons_zero, List.set_cons_succ]))
            refine Lex.lex_callv (f := 9) (args := #[.agg #[.int .i64 x.h, .int .i64 x.r], .agg #[.int .i64 y.h, .int .i64 y.r]]) (.bool false) (by rfl) (by rfl) (fun w' => by go_simp) (fun w' hC => CM.out w') (by rfl) ?_
            simp only [Act.put, List.setIfInBounds_toArray, List.set_cons_zero, List.set_cons_succ]
            repeat (first | (refine Lex.lex_skip (by rfl) (by rfl) (by rfl) ?_; simp only [Act.put, List.setIfInBounds_toArray, List.set_cons_zero, List.set_cons_succ]) | (refine Lex.lex_pure (c := ?_) (by rfl) (by rfl) (fun w' hC => ?_) (by rfl) ?_; rotate_left 1; (have ⟨a0, a1⟩ := SA.out w' hC; have ⟨b0, b1⟩ := SJ.out w' hC; go_simp; rfl); simp only [Act.put, List.setIfInBounds_toArray, List.set_cons_zero, List.set_cons_succ]))
            refine Lex.lex_nil (fun w9 hC => ?_)
            simp only [Lex.fill]
            have U9 := Lib.hid (UR.out.trans hC)
            clear hC SA SJ CM UR
            go_wp2
            go_roundw
            case rel => exact ⟨j + 1, by omega, by go_num, U9.out⟩
            case measure => simp [intOf]; omega
        · obtain rfl : j = us.length := by omega
          go_wp2
          go_quiet (fail)
          go_wp2
          go_ret
          exact ⟨rfl, below_dN UR.out _⟩
  · have hu0 : us = [] := List.eq_nil_of_length_eq_zero (by omega)
    subst hu0
    have hn : Stp.last [] = -1 := rfl
    obtain rfl : vs = zs := HZ.out
    rw [hn]
    by_cases hy0 : 0 < vs.length
    · obtain ⟨k, hk, e1, e2, e3⟩ := Stp.last_spec hy0
      rw [e1]
      clear e1 e2 e3 hn
      have n0 : ((vs.length : Int) == 0) = false := beq_eq_false_iff_ne.2 (by omega)
      have n1 : ((k : Int) == -1) = false := beq_eq_false_iff_ne.2 (by omega)
      go_wp2
      go_loopw [11] (fun v W => v = .int .i64 0 ∧ Lex.Up w W) (fun v _ => 0)
      case atStart => exact ⟨rfl, U8.out⟩
      case round =>
        obtain ⟨rfl, hU⟩ := hrel
        have UR := Lib.hid hU; clear hU
        go_wp2
        go_ret
        exact ⟨rfl, UR.out⟩
    · have hv0 : vs = [] := List.eq_nil_of_length_eq_zero (by omega)
      subst hv0
      rw [hn]
      go_wp2
      go_loopw [11] (fun v W => v = .int .i64 0 ∧ Lex.Up w W) (fun v _ => 0)
      case atStart => exact ⟨rfl, U8.out⟩
      case round =>
        obtain ⟨rfl, hU⟩ := hrel
        have UR := Lib.hid hU; clear hU
        go_wp2
        go_ret
        exact ⟨rfl, UR.out⟩
end Go.Proofs.Ythalldlnkmdngaa
