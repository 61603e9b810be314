/-
  The head of all statements of layer 7.
-/
import Derived.Test.YthgfbnkggdlokaaFrB
namespace Go.Proofs.Ythgfbnkggdlokaa
open Go.RowKit
set_option maxRecDepth 100000

def shFr : Fr := ⟨2, 2, 300, Ck.zero, []⟩
theorem sh_may : Fr.may shFr = true := by decide +kernel
theorem sh_raw : Fr.raw shFr = [4, 2, 2, 172, 2] := by decide +kernel
theorem sh_out : Fr.out shFr = Cr.sealed [4, 2, 2, 172, 2] := by
  unfold Fr.out; rw [sh_may, if_pos rfl, Fr.bytes, sh_raw]
theorem sealed_lt {xs : List Nat} (h : Bts xs) : Bts (Cr.sealed xs) := fun x hx => by
  rcases List.mem_append.1 hx with h1 | h1
  · exact h x h1
  · exact Cr.tail_lt _ x h1
theorem sealed_len (xs : List Nat) : (Cr.sealed xs).length = xs.length + 4 := by
  unfold Cr.sealed
  rw [List.length_append]; rfl
theorem sh5 : Bts [4, 2, 2, 172, 2] := by unfold Bts; decide
set_option maxHeartbeats 2000000 in
theorem shown_any (w : World) : Calls Try.prog 11 #[] w fun e w' => e = .returned (.bool true) ∧ Below w.heap.size w w' := by
  have C := Lib.hid (fun w => frput_any shFr none 0 0 w (EvSl.none w))
  have CS := Lib.hid (fun A cap w h => seal_any A 5 cap [4, 2, 2, 172, 2] w h (by decide))
  have LS := sealed_lt sh5
  have LL := sealed_len [4, 2, 2, 172, 2]
  rw [sh_may, sh_out, if_pos rfl] at C
  generalize hs : Cr.sealed [4, 2, 2, 172, 2] = zs at *
  clear hs
  have HL := Lib.hid LS
  clear LS
  go_enter Try.func11, Try.ntmps11
  go_wp2_with fail
  refine (C.out _).mono ?_
  rintro e w1 ⟨v, rfl, hown, hb⟩
  have LZ : zs.length = 9 := by simpa using LL
  rw [LZ] at hown
  obtain ⟨A, cap, rfl, hs⟩ := slc_of_own2 hown HL.out
  have HB := Lib.hid hb
  have HS := Lib.hid hs
  have FC := Lib.hid (fun w' (h : Lex.Up w1 w') => conv_slc (hs.below h))
  clear hown hb hs C LL LZ
  go_wp2
  refine Lex.wp_region_lex (by kernel_rfl) (by kernel_rfl) (by rfl) ?_
  repeat (first | (refine Lex.lex_skip (by rfl) (by rfl) (by rfl) ?_; simp only [Act.put, List.setIfInBounds_toArray, List.set_cons_zero, List.set_cons_succ]) | (refine Lex.lex_pure (c := ?_) (by rfl) (by rfl) (fun w' hC => ?_) (by rfl) ?_; rotate_left 1; (have c0 := FC.out w' hC; go_simp; rfl); simp only [Act.put, List.setIfInBounds_toArray, List.set_cons_zero, List.set_cons_succ]))
  refine Lex.lex_make (v := fun w => .slice (some ⟨w.heap.size, 0, none⟩) 5 5) (f := fun w => w.alloc (.cells #[.int .u8 4, .int .u8 2, .int .u8 2, .int .u8 172, .int .u8 2] 5)) 10 (arrFact [4, 2, 2, 172, 2]) (by rfl) (by rfl) (by rfl) (arrFact_up _) (fun w' hC => ?_) (fun w' _ => arr_made w' [4, 2, 2, 172, 2]) (by rfl) ?_
  · have := hC; clear this; go_simp
  refine Lex.lex_callfact (f := 18) (args := fun v => #[v]) 11 (slcFact zs) (by rfl) (fun v => by rfl) (by rfl) (slcFact_up _) (fun v w' => by go_simp) (fun w' _ v hv => ?_) (by rfl) ?_
  · obtain ⟨A1, c1, rfl, hs1⟩ := arr_slc hv sh5 (by decide)
    exact call_slc (CS.out A1 c1 w' hs1) HL.out
  refine Lex.lex_of (c := ?_) (t := 11) (R := slcFact zs) (by rfl) (fun v => by rfl) (fun w' hC v hv => ?_) (by rfl) ?_
  rotate_left 1
  · obtain ⟨A1, c1, rfl, hs1⟩ := hv
    have hcv := conv_slc hs1
    go_simp; rfl
  simp only [Act.put, List.setIfInBounds_toArray, List.set_cons_zero, List.set_cons_succ]
  repeat (first | (refine Lex.lex_skip (by rfl) (by rfl) (by rfl) ?_; simp only [Act.put, List.setIfInBounds_toArray, List.set_cons_zero, List.set_cons_succ]) | (refine Lex.lex_pure (c := ?_) (by rfl) (by rfl) (fun w' hC => ?_) (by rfl) ?_; rotate_left 1; (go_simp; rfl); simp only [Act.put, List.setIfInBounds_toArray, List.set_cons_zero, List.set_cons_succ]))
  refine Lex.lex_nil (fun w5 hC => ?_)
  simp only [Lex.fill]
  intro v11 h11 v10 h10
  clear h11 h10
  have HU := Lib.hid (HB.out.trans (Below.mono hC HB.out.size))
  clear hC
  go_wp2
  go_ret
  exact ⟨rfl, HU.out⟩
end Go.Proofs.Ythgfbnkggdlokaa
