/-
  The walks of past.Height and of the reference's Height.
-/
import Derived.Test.YthgfbnkggdlokaaPstA
import Derived.Test.YthgfbnkggdlokaaClkRj
import Derived.Test.YthgfbnkggdlokaaLex
namespace Go.Proofs.Ythgfbnkggdlokaa
open Go.RowKit
set_option maxRecDepth 100000
set_option maxRecDepth 100000

def HgtRel (es : List Ev) (c : Ck) (b : Nat) (W : World) (v5 v6 v11 : Value) (wr : World) : Prop :=
  ∃ (k : Nat) (t : Int) (f : Bool), k ≤ es.length ∧ v5 = .int .i64 t ∧ v6 = .bool f ∧ v11 = .int .i64 k ∧ Hid (Pst.topS c (0, false) (es.take k) = (t, f)) ∧ Hid (Blk wr b c.cells 23) ∧ Hid (Below b W wr)

set_option maxHeartbeats 1600000 in
theorem height_any (es : List Ev) (c : Ck) (A : Option Addr) (n cap : Nat) (w : World) (h : EvSl w A n cap es) :
    Calls Try.prog 26 #[.slice A n cap, c.val] w fun x w' => x = .returned (.int .i64 (Pst.hgt es c)) ∧ Lex.Up w w' := by
  have CH := Lib.hid (fun r n w => has_any c r n w)
  have SL := Lib.hid (fun w' (hu : Lex.Up w w') => EvSl.up h hu)
  have AD := Lib.hid h.addr
  have hl := h.len
  have hlim := h.lim
  have HE := Lib.hid (show es.take n = es by rw [← hl, List.take_length])
  have HL := Lib.hid hl
  have K0 := Lib.hid (Blk.new w c.cells 23)
  have U0 := Lib.hid (show Below w.heap.size w (w.alloc (.cells c.cells 23)) from (Below.refl _ _).alloc (Nat.le_refl _) _)
  have HG := Lib.hid (show Pst.hgt es c = wrap64 ((Pst.topS c (0, false) es).1 + 1) from rfl)
  generalize Pst.hgt es c = z at *
  unfold Ck.val at *
  clear h hl
  go_enter Try.func26, Try.ntmps26
  go_wp2
  go_loopw [5, 6, 11] (fun v5 v6 v11 wr => HgtRel es c w.heap.size w v5 v6 v11 wr) (fun _ _ v _ => n - (intOf v).toNat)
  case atStart => exact ⟨0, 0, false, by omega, rfl, rfl, rfl, Lib.hid rfl, K0, U0⟩
  case round =>
    obtain ⟨k, t, f, hk, rfl, rfl, rfl, HT, KC, UR⟩ := hrel
    rw [HL.out] at hk
    clear K0 U0
    obtain ⟨b0, b1, b2, b3, b4⟩ := KC.out.ck
    have ltc := KC.out.lt
    by_cases h5 : k < n
    · have h5' : (k : Int) < n := by omega
      obtain ⟨b, off, rfl⟩ := AD.out (by omega)
      obtain ⟨e0, e1, e2, e3, e4, e5, e6, e7, e8, e9, e10, e11⟩ := ev_at (SL.out wr UR.out) h5
      have KT := Lib.hid (show Pst.topS c (0, false) (es.take (k + 1)) = _ from Pst.topS_take c (by rw [HL.out]; exact h5))
      rw [HT.out] at KT
      generalize hg : Ev.nth es k = e at e0 e1 e2 e3 e4 e5 e6 e7 e8 e9 e10 e11 KT
      have CE := Lib.hid (fun w => CH.out e.r e.n w)
      generalize Ck.has c e.r e.n = q at *
      clear hg CH HT
      go_upto_region 5 with (fail)
      refine wp_named (fun W hW => ?_)
      have KA := Lib.hid (show Blk W wr.heap.size e.cells 51 by rw [hW]; exact Blk.new wr e.cells 51)
      have KW := Lib.hid (show Blk W w.heap.size c.cells 23 by rw [hW]; exact KC.out.alloc _)
      have UW := Lib.hid (show Below w.heap.size w W by rw [hW]; exact UR.out.alloc (Nat.le_of_lt ltc) _)
      clear hW UR KC e0 e1 e2 e3 e4 e5 e6 e7 e8 e9 e10 e11 b0 b1 b2 b3 b4
      obtain ⟨a0, a1, a2, a3, a4, a5, a6, a7, a8, a9, a10, a11⟩ := KA.out.ev12
      obtain ⟨b0, b1, b2, b3, b4⟩ := KW.out.ck
      go_wp2_with fail
      refine (CE.out _).mono ?_
      rintro x w2 ⟨rfl, hu⟩
      have KA1 := Lib.hid (KA.out.up hu)
      have KC1 := Lib.hid (KW.out.up hu)
      have U1 := Lib.hid (show Below w.heap.size w w2 from UW.out.trans (hu.mono UW.out.size))
      clear hu CE KA KW UW a0 a1 a2 a3 a4 a5 a6 a7 a8 a9 a10 a11 b0 b1 b2 b3 b4
      obtain ⟨a0, a1, a2, a3, a4, a5, a6, a7, a8, a9, a10, a11⟩ := KA1.out.ev12
      cases q
      · go_wp2
        go_roundw
        case rel => exact ⟨k + 1, t, f, by rw [HL.out]; omega, rfl, rfl, by go_num, Lib.hid (by rw [KT.out]; simp), KC1, U1⟩
        case measure => simp [intOf]; omega
      cases f
      · go_wp2
        go_roundw
        case rel => exact ⟨k + 1, e.h, true, by rw [HL.out]; omega, rfl, rfl, by go_num, Lib.hid (by rw [KT.out]; simp), KC1, U1⟩
        case measure => simp [intOf]; omega
      by_cases hh : t < e.h
      · have hd : decide (t < e.h) = true := by simpa using hh
        have HH := Lib.hid hh; clear hh
        go_wp2
        go_roundw
        case rel => exact ⟨k + 1, e.h, true, by rw [HL.out]; omega, rfl, rfl, by go_num, Lib.hid (by rw [KT.out]; simp [HH.out]), KC1, U1⟩
        case measure => simp [intOf]; omega
      · have hd : decide (t < e.h) = false := by simpa using hh
        have HH := Lib.hid hh; clear hh
        go_wp2
        go_roundw
        case rel => exact ⟨k + 1, t, true, by rw [HL.out]; omega, rfl, rfl, by go_num, Lib.hid (by rw [KT.out]; exact if_neg (by simpa using HH.out)), KC1, U1⟩
        case measure => simp [intOf]; omega
    · obtain rfl : k = n := by omega
      have HT2 := Lib.hid (show z = wrap64 (t + 1) by have := HT.out; rw [HE.out] at this; rw [HG.out, this])
      clear HT CH HG
      go_wp2
      go_ret
      exact ⟨by rw [HT2.out]; rfl, UR.out⟩

def RHgtRel (es : List Ev) (c : Ck) (b : Nat) (W : World) (v5 v6 v7 : Value) (wr : World) : Prop :=
  ∃ (k : Nat) (t : Int) (f : Bool), k ≤ es.length ∧ v5 = .int .i64 t ∧ v6 = .bool f ∧ v7 = .int .i64 k ∧ Hid (Pst.topS c (0, false) (es.take k) = (t, f)) ∧ Hid (Blk wr b c.cells 23) ∧ Hid (Below b W wr)
set_option maxHeartbeats 1600000 in
theorem rheight_any (es : List Ev) (c : Ck) (A : Option Addr) (n cap : Nat) (w : World) (h : EvSl w A n cap es) :
    Calls Try.prog 27 #[.slice A n cap, c.val] w fun x w' => x = .returned (.int .i64 (Pst.hgt es c)) ∧ Lex.Up w w' := by
  have CH := Lib.hid (fun r n w => rhas_any c r n w)
  have SL := Lib.hid (fun w' (hu : Lex.Up w w') => EvSl.up h hu)
  have AD := Lib.hid h.addr
  have hl := h.len
  have hlim := h.lim
  have HE := Lib.hid (show es.take n = es by rw [← hl, List.take_length])
  have HL := Lib.hid hl
  have K0 := Lib.hid (Blk.new w c.cells 23)
  have U0 := Lib.hid (show Below w.heap.size w (w.alloc (.cells c.cells 23)) from (Below.refl _ _).alloc (Nat.le_refl _) _)
  have HG := Lib.hid (show Pst.hgt es c = wrap64 ((Pst.topS c (0, false) es).1 + 1) from rfl)
  generalize Pst.hgt es c = z at *
  unfold Ck.val at *
  clear h hl
  go_enter Try.func27, Try.ntmps27
  go_wp2
  go_loopw [5, 6, 7] (fun v5 v6 v7 wr => RHgtRel es c w.heap.size w v5 v6 v7 wr) (fun _ _ v _ => n - (intOf v).toNat)
  case atStart => exact ⟨0, 0, false, by omega, rfl, rfl, rfl, Lib.hid rfl, K0, U0⟩
  case round =>
    obtain ⟨k, t, f, hk, rfl, rfl, rfl, HT, KC, UR⟩ := hrel
    rw [HL.out] at hk
    clear K0 U0
    obtain ⟨b0, b1, b2, b3, b4⟩ := KC.out.ck
    have ltc := KC.out.lt
    by_cases h5 : k < n
    · have h5' : (k : Int) < n := by omega
      obtain ⟨b, off, rfl⟩ := AD.out (by omega)
      obtain ⟨e0, e1, e2, e3, e4, e5, e6, e7, e8, e9, e10, e11⟩ := ev_at (SL.out wr UR.out) h5
      have KT := Lib.hid (show Pst.topS c (0, false) (es.take (k + 1)) = _ from Pst.topS_take c (by rw [HL.out]; exact h5))
      rw [HT.out] at KT
      have EA := Lib.hid (fun w' (hu : Lex.Up wr w') => ev_at (SL.out w' (UR.out.trans (hu.mono UR.out.size))) h5)
      generalize hg : Ev.nth es k = e at e0 e1 e2 e3 e4 e5 e6 e7 e8 e9 e10 e11 KT EA
      have CE := Lib.hid (fun w => CH.out e.r e.n w)
      generalize Ck.has c e.r e.n = q at *
      clear hg CH HT
      go_wp2
      have EB := Lib.hid (fun w' (hu : Lex.Up wr w') => (EA.out w' hu).1)
      refine Lex.wp_region_lex (by kernel_rfl) (by kernel_rfl) (by rfl) ?_
      repeat (first | (refine Lex.lex_skip (by rfl) (by rfl) (by rfl) ?_; simp only [Act.put, List.setIfInBounds_toArray, List.set_cons_zero, List.set_cons_succ]) | (refine Lex.lex_pure (c := ?_) (by rfl) (by rfl) (fun w' hC => ?_) (by rfl) ?_; rotate_left 1; (obtain ⟨e0, e1, e2, e3, e4, e5, e6, e7, e8, e9, e10, e11⟩ := EA.out w' hC; obtain ⟨b0, b1, b2, b3, b4⟩ := (KC.out.up hC).ck; go_simp; rfl); simp only [Act.put, List.setIfInBounds_toArray, List.set_cons_zero, List.set_cons_succ]))
      refine Lex.lex_callv (f := 62) (args := #[.agg #[.int .i64 c.c0, .int .i64 c.c1, .int .i64 c.c2, .int .i64 c.c3, .int .i64 c.c4], .int .i64 e.r, .int .i64 e.n]) (.bool q) (by rfl) (by rfl) (fun w' => by go_simp) (fun w' hC => CE.out w') (by rfl) ?_
      simp only [Act.put, List.setIfInBounds_toArray, List.set_cons_zero, List.set_cons_succ]
      repeat (first | (refine Lex.lex_skip (by rfl) (by rfl) (by rfl) ?_; simp only [Act.put, List.setIfInBounds_toArray, List.set_cons_zero, List.set_cons_succ]) | (refine Lex.lex_pure (c := ?_) (by rfl) (by rfl) (fun w' hC => ?_) (by rfl) ?_; rotate_left 1; (go_simp; rfl); simp only [Act.put, List.setIfInBounds_toArray, List.set_cons_zero, List.set_cons_succ]))
      refine Lex.lex_nil (fun w2 hC => ?_)
      simp only [Lex.fill]
      have KC1 := Lib.hid (KC.out.up hC)
      have U1 := Lib.hid (show Below w.heap.size w w2 from UR.out.trans (hC.mono UR.out.size))
      obtain ⟨a0, a1, a2, a3, a4, a5, a6, a7, a8, a9, a10, a11⟩ := EA.out w2 hC
      clear e0 e1 e2 e3 e4 e5 e6 e7 e8 e9 e10 e11 b0 b1 b2 b3 b4 hC CE KC EA EB
      cases q
      · go_wp2
        go_roundw
        case rel => exact ⟨k + 1, t, f, by rw [HL.out]; omega, rfl, rfl, by go_num, Lib.hid (by rw [KT.out]; simp), KC1, U1⟩
        case measure => simp [intOf]; omega
      cases f
      · go_wp2
        go_roundw
        case rel => exact ⟨k + 1, e.h, true, by rw [HL.out]; omega, rfl, rfl, by go_num, Lib.hid (by rw [KT.out]; simp), KC1, U1⟩
        case measure => simp [intOf]; omega
      by_cases hh : t < e.h
      · have hd : decide (t < e.h) = true := by simpa using hh
        have HH := Lib.hid hh; clear hh
        go_wp2
        go_roundw
        case rel => exact ⟨k + 1, e.h, true, by rw [HL.out]; omega, rfl, rfl, by go_num, Lib.hid (by rw [KT.out]; simp [HH.out]), KC1, U1⟩
        case measure => simp [intOf]; omega
      · have hd : decide (t < e.h) = false := by simpa using hh
        have HH := Lib.hid hh; clear hh
        go_wp2
        go_roundw
        case rel => exact ⟨k + 1, t, true, by rw [HL.out]; omega, rfl, rfl, by go_num, Lib.hid (by rw [KT.out]; exact if_neg (by simpa using HH.out)), KC1, U1⟩
        case measure => simp [intOf]; omega
    · obtain rfl : k = n := by omega
      have HT2 := Lib.hid (show z = wrap64 (t + 1) by have := HT.out; rw [HE.out] at this; rw [HG.out, this])
      clear HT CH HG
      go_wp2
      go_ret
      exact ⟨by rw [HT2.out]; rfl, UR.out⟩
end Go.Proofs.Ythgfbnkggdlokaa
