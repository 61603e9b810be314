/-
  The walk of CrcAll.
-/
import Derived.Test.YtlhcidpegglnfaaLaws2A
namespace Go.Proofs.Ytlhcidpegglnfaa
open Go.RowKit
attribute [local go_sem ↓] Go.wp_at_zero Go.wp_at_succ

set_option maxRecDepth 100000 in
set_option maxHeartbeats 4000000 in
theorem law_all (A : Option Addr) (n cap : Nat) (xs : List Nat) (r c : Nat) (w : World) (hs : Slc w A n cap xs) (hr : r < 4294967296) (hc : c < 256) :
    Calls Try.prog 3 #[.slice A n cap, .int .u32 r, .int .u8 c] w fun e w' => e = .returned (.bool true) ∧ Below w.heap.size w w' := by
  have FEW := Lib.hid (fun w => few_any A n cap w hs.2.1 hs.2.2.1)
  obtain ⟨m, hm⟩ : ∃ m, min n 300 = m := ⟨_, rfl⟩
  have S := Lib.hid (hs.take_ (u := m) (by omega))
  rw [hm] at FEW
  have m300 : m ≤ 300 := by omega
  clear hm hs
  generalize xs.take m = ys at *
  have C0 := Lib.hid (shown_any w)
  have CT := Lib.hid (fun w => step_any r c w hr hc)
  have CU := Lib.hid (fun w => rstep_any r c w hr hc)
  have CO := Lib.hid (fun w (h : Slc w A m cap ys) => open_val A m cap ys w h (by omega))
  have CP := Lib.hid (fun w (h : Slc w A m cap ys) => ropen_val A m cap ys w h (by omega))
  have CM := Lib.hid (fun w (h : Slc w A m cap ys) => sum_any A m cap ys w h)
  have CN := Lib.hid (fun w (h : Slc w A m cap ys) => rsum_any A m cap ys w h)
  have CS := Lib.hid (fun w (h : Slc w A m cap ys) => seal_any A m cap ys w h (by omega))
  have CR := Lib.hid (fun w (h : Slc w A m cap ys) => rseal_any A m cap ys w h (by omega))
  have SX := Lib.hid (Cr.sealed_lt (Pl.lt_of_nth S.out.2.2.2.1))
  have hst := str_eq SX.out SX.out
  rw [decide_eq_true rfl] at hst
  generalize Cr.sealed ys = zs at *
  generalize Cr.step r c = st at *
  generalize Cr.sum ys = su at *
  obtain ⟨os, hos⟩ : ∃ l, Cr.opened ys = l := ⟨_, rfl⟩
  obtain ⟨ob, hob⟩ : ∃ l, Cr.opens ys = l := ⟨_, rfl⟩
  unfold OpenVal at CO CP
  rw [hos, hob] at CO CP
  clear hr hc hos hob
  go_enter Try.func3, Try.ntmps3
  go_wp2_with fail
  refine C0.out.mono ?_
  rintro e w1 ⟨rfl, hb1⟩
  have S1 := Lib.hid (S.out.below hb1)
  go_wp2_with fail
  refine (FEW.out _).mono ?_
  rintro e w' ⟨rfl, rfl⟩
  go_wp2_with fail
  refine (CO.out _ S1.out).mono ?_
  rintro e w2 ⟨A2, c2, rfl, s2, hb2⟩
  have S2 := Lib.hid (S1.out.below hb2)
  have O2 := Lib.hid s2
  have B2 := Lib.hid (hb1.trans (hb2.mono hb1.size))
  have Y2 := Lib.hid (Pl.lt_of_nth s2.2.2.2.1)
  clear s2 hb2 hb1
  go_wp2_with fail
  refine (CP.out _ S2.out).mono ?_
  rintro e w3 ⟨A3, c3, rfl, s3, hb3⟩
  have S3 := Lib.hid (S2.out.below hb3)
  have O3 := Lib.hid (O2.out.below hb3)
  have P3 := Lib.hid s3
  have B3 := Lib.hid (B2.out.trans (hb3.mono B2.out.size))
  clear s3 hb3
  have hso := str_eq Y2.out Y2.out
  rw [decide_eq_true rfl] at hso
  have hqb : (ob == ob) = true := by simp
  go_wp2
  refine Lex.wp_region_lex (by kernel_rfl) (by kernel_rfl) (by rfl) ?_
  repeat (refine Lex.lex_pure (c := ?_) (by rfl) (by rfl) (fun w' hC => ?_) (by rfl) ?_; rotate_left 1; (go_simp; rfl); simp only [Act.put, List.setIfInBounds_toArray, List.set_cons_zero, List.set_cons_succ])
  refine Lex.lex_callv (f := 13) (args := #[.slice A m cap]) (.int .u32 su) (by rfl) (by rfl) (fun w' => by go_simp) (fun w' hC => (CM.out w' (S3.out.below hC)).mono fun e w2 he => ⟨he.1, he.2 ▸ Lex.Up.refl _⟩) (by rfl) ?_
  simp only [Act.put, List.setIfInBounds_toArray, List.set_cons_zero, List.set_cons_succ]
  repeat (refine Lex.lex_pure (c := ?_) (by rfl) (by rfl) (fun w' hC => ?_) (by rfl) ?_; rotate_left 1; (go_simp; rfl); simp only [Act.put, List.setIfInBounds_toArray, List.set_cons_zero, List.set_cons_succ])
  refine Lex.lex_callv (f := 14) (args := #[.slice A m cap]) (.int .u32 su) (by rfl) (by rfl) (fun w' => by go_simp) (fun w' hC => (CN.out w' (S3.out.below hC)).mono fun e w2 he => ⟨he.1, he.2 ▸ Lex.Up.refl _⟩) (by rfl) ?_
  simp only [Act.put, List.setIfInBounds_toArray, List.set_cons_zero, List.set_cons_succ]
  repeat (refine Lex.lex_pure (c := ?_) (by rfl) (by rfl) (fun w' hC => ?_) (by rfl) ?_; rotate_left 1; (go_simp; rfl); simp only [Act.put, List.setIfInBounds_toArray, List.set_cons_zero, List.set_cons_succ])
  refine Lex.lex_callv (f := 15) (args := #[.int .u32 r, .int .u8 c]) (.int .u32 st) (by rfl) (by rfl) (fun w' => by go_simp) (fun w' hC => (CT.out w').mono fun e w2 he => ⟨he.1, he.2 ▸ Lex.Up.refl _⟩) (by rfl) ?_
  simp only [Act.put, List.setIfInBounds_toArray, List.set_cons_zero, List.set_cons_succ]
  repeat (refine Lex.lex_pure (c := ?_) (by rfl) (by rfl) (fun w' hC => ?_) (by rfl) ?_; rotate_left 1; (go_simp; rfl); simp only [Act.put, List.setIfInBounds_toArray, List.set_cons_zero, List.set_cons_succ])
  refine Lex.lex_callv (f := 16) (args := #[.int .u32 r, .int .u8 c]) (.int .u32 st) (by rfl) (by rfl) (fun w' => by go_simp) (fun w' hC => (CU.out w').mono fun e w2 he => ⟨he.1, he.2 ▸ Lex.Up.refl _⟩) (by rfl) ?_
  simp only [Act.put, List.setIfInBounds_toArray, List.set_cons_zero, List.set_cons_succ]
  repeat (refine Lex.lex_pure (c := ?_) (by rfl) (by rfl) (fun w' hC => ?_) (by rfl) ?_; rotate_left 1; (go_simp; rfl); simp only [Act.put, List.setIfInBounds_toArray, List.set_cons_zero, List.set_cons_succ])
  refine Lex.lex_call (f := 17) (args := #[.slice A m cap]) 45 (slcFact zs) (by rfl) (by rfl) (by rfl) (slcFact_up _) (fun w' => by go_simp) (fun w' hC => call_slc (CS.out w' (S3.out.below hC)) SX.out) (by rfl) ?_
  refine Lex.lex_of (c := ?_) (t := 45) (R := slcFact zs) (by rfl) (fun v => by rfl) (fun w' hC v hv => ?_) (by rfl) ?_
  rotate_left 1
  · obtain ⟨A1, c1, rfl, hs1⟩ := hv
    have hcv := conv_slc hs1
    go_simp; rfl
  simp only [Act.put, List.setIfInBounds_toArray, List.set_cons_zero, List.set_cons_succ]
  repeat (refine Lex.lex_pure (c := ?_) (by rfl) (by rfl) (fun w' hC => ?_) (by rfl) ?_; rotate_left 1; (go_simp; rfl); simp only [Act.put, List.setIfInBounds_toArray, List.set_cons_zero, List.set_cons_succ])
  refine Lex.lex_call (f := 18) (args := #[.slice A m cap]) 48 (slcFact zs) (by rfl) (by rfl) (by rfl) (slcFact_up _) (fun w' => by go_simp) (fun w' hC => call_slc (CR.out w' (S3.out.below hC)) SX.out) (by rfl) ?_
  refine Lex.lex_of (c := ?_) (t := 48) (R := slcFact zs) (by rfl) (fun v => by rfl) (fun w' hC v hv => ?_) (by rfl) ?_
  rotate_left 1
  · obtain ⟨A1, c1, rfl, hs1⟩ := hv
    have hcv := conv_slc hs1
    go_simp; rfl
  simp only [Act.put, List.setIfInBounds_toArray, List.set_cons_zero, List.set_cons_succ]
  repeat (refine Lex.lex_pure (c := ?_) (by rfl) (by rfl) (fun w' hC => ?_) (by rfl) ?_; rotate_left 1; (have cv2 := conv_slc (O3.out.below hC); have cv3 := conv_slc (P3.out.below hC); go_simp; rfl); simp only [Act.put, List.setIfInBounds_toArray, List.set_cons_zero, List.set_cons_succ])
  refine Lex.lex_nil (fun w4 hC => ?_)
  intro v1 _ v2 _
  simp only [Lex.fill, Act.put, List.setIfInBounds_toArray, List.set_cons_zero, List.set_cons_succ]
  have hB := Lib.hid (B3.out.trans (hC.mono B3.out.size))
  clear hC
  go_wp2
  go_ret
  exact ⟨rfl, hB.out⟩
end Go.Proofs.Ytlhcidpegglnfaa
