/-
  The walk of past.fits.
-/
import Derived.Test.YthgfbnkggdlokaaPstB
import Derived.Test.YthgfbnkggdlokaaClkLe
namespace Go.Proofs.Ythgfbnkggdlokaa
open Go.RowKit
set_option maxRecDepth 100000
set_option maxRecDepth 100000

namespace Pst
/-- Of each of the first k replicas the last one that a clock has, if all are there, and had seen no more. -/
def lasts (qs : List (Mk × Ev)) (c : Ck) : Nat → Option (List Ev)
  | 0 => some []
  | k + 1 =>
    match lasts qs c k with
    | none => none
    | some L => if c.get k = 0 then some L else
      match Al.get qs ⟨k, c.get k⟩ with
      | none => none
      | some s => if Ck.le s.c c = true then some (L ++ [s]) else none
def fits (qs : List (Mk × Ev)) (e : Ev) : Bool :=
  match lasts qs e.c 5 with
  | none => false
  | some L => decide (e.h = hgt L e.c)
theorem lasts_none {qs : List (Mk × Ev)} {c : Ck} {k : Nat} (h : lasts qs c k = none) : ∀ m, k ≤ m → lasts qs c m = none
  | 0, hm => by
    obtain rfl : k = 0 := by omega
    exact h
  | m + 1, hm => by
    rcases Nat.lt_or_ge m k with h1 | h1
    · obtain rfl : k = m + 1 := by omega
      exact h
    · rw [lasts, lasts_none h m h1]
theorem fits_no {qs : List (Mk × Ev)} {e : Ev} {k : Nat} (hk : k ≤ 5) (h : lasts qs e.c k = none) : fits qs e = false := by
  unfold fits
  rw [lasts_none h 5 hk]
theorem lasts_zero {qs : List (Mk × Ev)} {c : Ck} {k : Nat} {L : List Ev} (h : lasts qs c k = some L) (h0 : c.get k = 0) : lasts qs c (k + 1) = some L := by
  rw [lasts, h]; simp [h0]
theorem lasts_miss {qs : List (Mk × Ev)} {c : Ck} {k : Nat} {L : List Ev} (h : lasts qs c k = some L) (h0 : c.get k ≠ 0) (hg : Al.get qs ⟨k, c.get k⟩ = none) : lasts qs c (k + 1) = none := by
  rw [lasts, h]; simp [h0, hg]
theorem lasts_more {qs : List (Mk × Ev)} {c : Ck} {k : Nat} {L : List Ev} {s : Ev} (h : lasts qs c k = some L) (h0 : c.get k ≠ 0) (hg : Al.get qs ⟨k, c.get k⟩ = some s) (hl : Ck.le s.c c = false) : lasts qs c (k + 1) = none := by
  rw [lasts, h]; simp [h0, hg, hl]
theorem lasts_some {qs : List (Mk × Ev)} {c : Ck} {k : Nat} {L : List Ev} {s : Ev} (h : lasts qs c k = some L) (h0 : c.get k ≠ 0) (hg : Al.get qs ⟨k, c.get k⟩ = some s) (hl : Ck.le s.c c = true) : lasts qs c (k + 1) = some (L ++ [s]) := by
  rw [lasts, h]; simp [h0, hg, hl]
theorem fits_yes {qs : List (Mk × Ev)} {e : Ev} {L : List Ev} (h : lasts qs e.c 5 = some L) : fits qs e = (e.h == hgt L e.c) := by
  unfold fits
  rw [h]
  rfl
end Pst
theorem zero_ev (w : World) : (zeroValue 51).run Try.prog w = .ok Ev.zero.val w := by
  obtain ⟨i0, hi, hz0, hz1, hz2⟩ := info_parts ESe.info
  simp [zeroValue, typeInfo, hi, hz0]
theorem look_ev {w : World} {b : Nat} {qs : List (Mk × Ev)} (h : Mm w b (Al.enc Ev.val qs)) (r n : Int) :
    (Instr.lookup 78 (.map (some b)) (.agg #[.int .i64 r, .int .i64 n]) true).run Try.prog w = .ok (.tuple #[((Al.get qs ⟨r, n⟩).map Ev.val).getD Ev.zero.val, .bool (Al.get qs ⟨r, n⟩).isSome]) w := by
  have := Mm.look 78 51 Try.underlying78 (zero_ev w) h ⟨r, n⟩ true
  rw [Al.enc_get] at this
  rw [show (.agg #[.int .i64 r, .int .i64 n] : Value) = Mk.val ⟨r, n⟩ from rfl, this]
  simp
def FitsRel (qs : List (Mk × Ev)) (e : Ev) (B : Nat) (W : World) (v5 v12 : Value) (wr : World) : Prop :=
  ∃ (k : Nat) (L : List Ev), k ≤ 5 ∧ L.length ≤ k ∧ v12 = .int .i64 k ∧ Hid (Pst.lasts qs e.c k = some L) ∧ Hid (wr.ownsRow (B + 1) 51 12 v5 L.length (evc L)) ∧ Hid (Blk wr B e.cells 51) ∧ Hid (Below B W wr)

set_option maxHeartbeats 3200000 in
theorem fits_any (qs : List (Mk × Ev)) (e : Ev) (b : Nat) (w : World) (h : Mm w b (Al.enc Ev.val qs)) :
    Calls Try.prog 55 #[e.val, .map (some b)] w fun x w' => x = .returned (.bool (Pst.fits qs e)) ∧ Lex.Up w w' := by
  have CL := Lib.hid (fun c w => le_any c e.c w)
  have CH := Lib.hid (fun L A n cap w h => height_any L e.c A n cap w h)
  have ML := Lib.hid (fun w' (hu : Lex.Up w w') r n => look_ev (h.up hu) r n)
  have ltb := h.lt
  have K0 := Lib.hid (Blk.new w e.cells 51)
  have U0 := Lib.hid (show Below w.heap.size w (w.alloc (.cells e.cells 51)) from (Below.refl _ _).alloc (Nat.le_refl _) _)
  have HX := Lib.hid (show ∀ j, j < 5 → ∀ w, (Instr.index 23 (.agg #[.int .i64 e.c.c0, .int .i64 e.c.c1, .int .i64 e.c.c2, .int .i64 e.c.c3, .int .i64 e.c.c4]) (.int .i64 (j : Nat))).run Try.prog w = .ok (.int .i64 (e.c.get j)) w from fun j hj w => by
    match j, hj with
    | 0, _ | 1, _ | 2, _ | 3, _ | 4, _ => go_simp; rfl)
  have FN := Lib.hid (fun k (hk : k ≤ 5) h => Pst.fits_no (qs := qs) (e := e) (k := k) hk h)
  have FY := Lib.hid (fun L h => Pst.fits_yes (qs := qs) (e := e) (L := L) h)
  generalize Pst.fits qs e = z at *
  unfold Ck.val at *
  unfold Ev.val
  clear h
  go_enter Try.func55, Try.ntmps55
  go_upto_region 1 with (fail)
  refine wp_named (fun W hW => ?_)
  rw [← show W = w.alloc (.cells e.cells 51) from hW] at K0 U0
  clear hW
  obtain ⟨a0, a1, a2, a3, a4, a5, a6, a7, a8, a9, a10, a11⟩ := K0.out.ev12
  have lt0 := K0.out.lt
  go_wp2
  clear a0 a1 a2 a3 a4 a5 a6 a7 a8 a9 a10 a11 lt0
  go_loopw [5, 12] (fun v5 v12 wr => FitsRel qs e w.heap.size w v5 v12 wr) (fun _ v _ => 5 - (intOf v).toNat)
  case atStart => exact ⟨0, [], by omega, by simp, rfl, Lib.hid rfl, Lib.hid ⟨rfl, .inl ⟨rfl, rfl⟩⟩, K0, U0⟩
  case round =>
    obtain ⟨k, L, hk, hLk, rfl, HT, OW, KE, UR⟩ := hrel
    obtain ⟨A5, cap5, rfl, SX5⟩ := Sl.of_own OW.out
    have S5 := Lib.hid SX5
    clear K0 U0 SX5
    obtain ⟨a0, a1, a2, a3, a4, a5, a6, a7, a8, a9, a10, a11⟩ := KE.out.ev12
    have lt0 := KE.out.lt
    by_cases h5 : k < 5
    · have h5' : (k : Int) < 5 := by omega
      have hx := HX.out k h5
      have lk := ML.out wr UR.out k (e.c.get k)
      have F1 := Lib.hid (FN.out (k + 1) (by omega))
      have L0 := Lib.hid (fun h0 => Pst.lasts_zero HT.out h0)
      have L1 := Lib.hid (fun h0 hg => Pst.lasts_miss HT.out h0 hg)
      have L2 := Lib.hid (fun h0 s hg hl => Pst.lasts_more (s := s) HT.out h0 hg hl)
      have L3 := Lib.hid (fun h0 s hg hl => Pst.lasts_some (s := s) HT.out h0 hg hl)
      generalize e.c.get k = x at hx lk L0 L1 L2 L3
      clear HX HT FN CH FY
      by_cases h0 : x = 0
      · have d0 : (x == 0) = true := by simpa using h0
        have LN := Lib.hid (L0.out h0)
        clear L0 L1 L2 L3 lk h0
        go_wp2
        go_roundw
        case rel => exact ⟨k + 1, L, by omega, by omega, by go_num, LN, OW, KE, UR⟩
        case measure => simp [intOf]; omega
      have d0 : (x == 0) = false := by simpa using h0
      have H0 := Lib.hid h0
      clear h0 L0
      cases hq : Al.get qs ⟨k, x⟩ with
      | none =>
        have hz := F1.out (L1.out H0.out hq)
        subst hz
        rw [hq] at lk
        unfold Ev.zero Ev.val at lk
        simp only [Option.map_none, Option.getD_none, Option.isSome_none] at lk
        clear L1 L2 L3 hq F1
        go_wp2
        go_ret
        exact ⟨rfl, UR.out.alloc (Nat.le_of_lt lt0) _⟩
      | some s =>
        rw [hq] at lk
        simp only [Option.map_some, Option.getD_some, Option.isSome_some, Ev.val] at lk
        have L2' := Lib.hid (fun hl => F1.out (L2.out H0.out s hq hl))
        have L3' := Lib.hid (fun hl => L3.out H0.out s hq hl)
        have CS := Lib.hid (fun w => CL.out s.c w)
        generalize Ck.le s.c e.c = q at *
        clear L1 L2 L3 hq F1 CL
        go_upto_region 7 with (fail)
        refine wp_named (fun W7 hW => ?_)
        have KS := Lib.hid (show Blk W7 wr.heap.size s.cells 51 by rw [hW]; exact Blk.new wr s.cells 51)
        have KE7 := Lib.hid (show Blk W7 w.heap.size e.cells 51 by rw [hW]; exact KE.out.alloc _)
        have U7 := Lib.hid (show Below w.heap.size w W7 by rw [hW]; exact UR.out.alloc (Nat.le_of_lt lt0) _)
        have O7 := Lib.hid (show W7.ownsRow (w.heap.size + 1) 51 12 (.slice A5 L.length cap5) L.length (evc L) by rw [hW]; exact OW.out.alloc _)
        clear hW lk hx KE UR OW a0 a1 a2 a3 a4 a5 a6 a7 a8 a9 a10 a11
        obtain ⟨a0, a1, a2, a3, a4, a5, a6, a7, a8, a9, a10, a11⟩ := KE7.out.ev12
        obtain ⟨c0, c1, c2, c3, c4, c5, c6, c7, c8, c9, c10, c11⟩ := KS.out.ev12
        go_wp2_with fail
        refine (CS.out _).mono ?_
        rintro y w8 ⟨rfl, hu⟩
        have KS8 := Lib.hid (KS.out.up hu)
        have KE8 := Lib.hid (KE7.out.up hu)
        have U8 := Lib.hid (show Below w.heap.size w w8 from U7.out.trans (hu.mono U7.out.size))
        have O8 := Lib.hid (own_up O7.out hu)
        clear hu KS KE7 U7 O7 CS a0 a1 a2 a3 a4 a5 a6 a7 a8 a9 a10 a11 c0 c1 c2 c3 c4 c5 c6 c7 c8 c9 c10 c11
        cases q
        · have hz := L2'.out rfl
          subst hz
          go_wp2
          go_ret
          exact ⟨rfl, U8.out⟩
        have LN := Lib.hid (L3'.out rfl)
        clear L2' L3'
        obtain ⟨c0, c1, c2, c3, c4, c5, c6, c7, c8, c9, c10, c11⟩ := KS8.out.ev12
        have lt8 := KS8.out.lt
        have lt9 := KE8.out.lt
        have SX := Lib.hid (show Sl (w8.alloc (.cells s.cells 51)) 12 (some ⟨w8.heap.size, 0, none⟩) 1 1 (evc [s]) from Sl.of_blk (t := 51) (by rw [evc_one]; exact Blk.new w8 s.cells _) (by rw [evc_one]; rfl) (by decide))
        have O9 := Lib.hid (O8.out.alloc (.cells s.cells 51))
        have U9 := Lib.hid (U8.out.alloc (Nat.le_of_lt lt9) (.cells s.cells 51))
        have OB := Lib.hid (own_base O8.out)
        have KE9 := Lib.hid (KE8.out.alloc (.cells s.cells 51))
        go_wp2_with (at_builtin; refine ESe.wpList_append (by rfl) _ _ rfl (w.heap.size + 1) _ L.length (evc L) rfl O9.out (some ⟨w8.heap.size, 0, none⟩) 1 1 (evc [s]) rfl SX.out (evc_one' _) (by omega) (by simp only [maxLen]; omega) (by simp; omega) ?_)
        intro v9 w9 hown hg
        have ON := Lib.hid (show w9.ownsRow (w.heap.size + 1) 51 12 v9 (L ++ [s]).length (evc (L ++ [s])) by rw [evc_append, List.length_append]; exact hown)
        have UN := Lib.hid (show Below w.heap.size w w9 from Below.grown U9.out hg U9.out.size (fun j hj => Nat.le_of_succ_le (OB.out j hj)))
        have KN := Lib.hid (show Blk w9 w.heap.size e.cells 51 from by
          unfold Blk
          rw [hg.block w.heap.size KE9.out.lt (fun e => by have := OB.out _ e.symm; omega)]
          exact KE9.out)
        clear hown hg
        go_wp2
        go_roundw
        case rel => exact ⟨k + 1, L ++ [s], by omega, by simp; omega, by go_num, LN, ON, KN, UN⟩
        case measure => simp [intOf]; omega
    · obtain rfl : k = 5 := by omega
      have VZ := Lib.hid (FY.out L HT.out)
      have C2 := Lib.hid (fun w' (hu : Lex.Up wr w') => CH.out L A5 L.length cap5 w' (S5.out.up hu))
      clear HT FY FN HX ML CL CH OW S5
      generalize Pst.hgt L e.c = g at *
      go_upto_region 11 with (fail)
      refine Lex.wp_region_lex (by kernel_rfl) (by kernel_rfl) (by rfl) ?_
      repeat (first | (refine Lex.lex_skip (by rfl) (by rfl) (by rfl) ?_; simp only [Act.put, List.setIfInBounds_toArray, List.set_cons_zero, List.set_cons_succ]) | (refine Lex.lex_pure (c := ?_) (by rfl) (by rfl) (fun w' hC => ?_) (by rfl) ?_; rotate_left 1; (obtain ⟨b0, b1, b2, b3, b4, b5, b6, b7, b8, b9, b10, b11⟩ := (KE.out.up hC).ev12; go_simp; rfl); simp only [Act.put, List.setIfInBounds_toArray, List.set_cons_zero, List.set_cons_succ]))
      refine Lex.lex_callv (f := 26) (args := #[.slice A5 L.length cap5, .agg #[.int .i64 e.c.c0, .int .i64 e.c.c1, .int .i64 e.c.c2, .int .i64 e.c.c3, .int .i64 e.c.c4]]) (.int .i64 g) (by rfl) (by rfl) (fun w' => by go_simp) (fun w' hC => C2.out w' hC) (by rfl) ?_
      simp only [Act.put, List.setIfInBounds_toArray, List.set_cons_zero, List.set_cons_succ]
      repeat (first | (refine Lex.lex_skip (by rfl) (by rfl) (by rfl) ?_; simp only [Act.put, List.setIfInBounds_toArray, List.set_cons_zero, List.set_cons_succ]) | (refine Lex.lex_pure (c := ?_) (by rfl) (by rfl) (fun w' hC => ?_) (by rfl) ?_; rotate_left 1; (go_simp; rfl); simp only [Act.put, List.setIfInBounds_toArray, List.set_cons_zero, List.set_cons_succ]))
      refine Lex.lex_nil (fun w2 hC => ?_)
      simp only [Lex.fill]
      have U2 := Lib.hid (show Below w.heap.size w w2 from UR.out.trans (hC.mono UR.out.size))
      clear hC
      go_wp2
      go_ret
      exact ⟨by rw [VZ.out]; rfl, U2.out⟩
end Go.Proofs.Ythgfbnkggdlokaa
