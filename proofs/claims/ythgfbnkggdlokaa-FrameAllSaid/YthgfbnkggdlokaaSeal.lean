/-
  The walks of crc.endsWith, crc.Seal and crc.Open.
-/
import Derived.Test.YthgfbnkggdlokaaSum
import Derived.Test.YthgfbnkggdlokaaApp
import Derived.StillTailTactics
import Derived.Laws.CopyOwn
import Derived.Laws.Rows
import Derived.Laws.StructEq
namespace Go.Proofs.Ythgfbnkggdlokaa
open Go.RowKit
set_option maxRecDepth 100000

theorem add_none (b o j : Nat) : (⟨b, o, none⟩ : Addr).add j = ⟨b, o + j, none⟩ := by unfold Addr.add; split <;> simp_all
theorem nat_eq (x y : Nat) : ((x : Int) = (y : Int)) = (x = y) := propext (by omega)
/-- Two arrays of four bytes are the same just if their bytes are. -/
theorem eq_four (x0 x1 x2 x3 a b c d : Nat) (w : World) : (Op.equalIn 10000 76 (.agg #[.int .u8 x0, .int .u8 x1, .int .u8 x2, .int .u8 x3]) (.agg #[.int .u8 a, .int .u8 b, .int .u8 c, .int .u8 d])).run Try.prog w = .ok (decide ([x0, x1, x2, x3] = [a, b, c, d])) w := by
  have u5 := Try.underlying5
  have a5 := Try.isAgg5
  have z5 := Try.sizeOf5
  rw [show (10000 : Nat) = 9999 + 1 from rfl, Op.equalIn]
  simp only [Sem.run_bind, run_underlying Try.underlying76, Result.andThen_ok]
  simp only [Std.Legacy.Range.forIn_eq_forIn_range', Std.Legacy.Range.size, Nat.sub_zero, Nat.add_sub_cancel, Nat.div_one, List.range'_succ, List.range'_zero, List.forIn_cons, List.forIn_nil]
  go_simp
  by_cases h0 : x0 = a <;> by_cases h1 : x1 = b <;> by_cases h2 : x2 = c <;> by_cases h3 : x3 = d <;> simp [nat_eq, h0, h1, h2, h3]
theorem four_of {xs : List Nat} {n : Nat} (hl : xs.length = n) (h4 : 4 ≤ n) : xs.drop (n - 4) = [Pl.nth xs (n - 4), Pl.nth xs (n - 4 + 1), Pl.nth xs (n - 4 + 2), Pl.nth xs (n - 4 + 3)] := by
  apply List.ext_getElem
  · simp; omega
  intro i h1 h2
  simp at h1 h2
  rw [List.getElem_drop]
  match i, h2 with
  | 0, _ => simp [Pl.nth, show n - 4 < xs.length by omega]
  | 1, _ => simp [Pl.nth, show n - 4 + 1 < xs.length by omega]
  | 2, _ => simp [Pl.nth, show n - 4 + 2 < xs.length by omega]
  | 3, _ => simp [Pl.nth, show n - 4 + 3 < xs.length by omega]

set_option maxHeartbeats 400000 in
theorem endsWith_any (A : Option Addr) (n cap : Nat) (xs : List Nat) (w : World) (h : Slc w A n cap xs) (h4 : 4 ≤ n) (a b c d : Nat) :
    Calls Try.prog 83 #[.slice A n cap, .agg #[bv a, bv b, bv c, bv d]] w fun e w' => e = .returned (.bool (decide (xs.drop (n - 4) = [a, b, c, d]))) ∧ Below w.heap.size w w' := by
  obtain ⟨hl, hc, hm, hlt, hcell⟩ := h
  obtain ⟨bl, off, rfl, hbl, hcell2⟩ := hcell (by omega)
  clear hcell
  have hf := four_of hl h4
  have HL := Lib.hid hl; clear hl hlt
  have hcs : ∀ j v, [bv (Pl.nth xs (n - 4)), bv (Pl.nth xs (n - 4 + 1)), bv (Pl.nth xs (n - 4 + 2)), bv (Pl.nth xs (n - 4 + 3))][j]? = some v → w.cell? ⟨bl, off + (n - 4) + j, none⟩ = some v := fun j v hv => by
    have hj : j < 4 := by
      rcases Nat.lt_or_ge j 4 with h | h
      · exact h
      · rw [List.getElem?_eq_none (by simpa using h)] at hv; cases hv
    have := hcell2 (n - 4 + j) (by omega)
    rw [show off + (n - 4) + j = off + (n - 4 + j) by omega, this, ← hv]
    match j, hj with
    | 0, _ => rfl
    | 1, _ => rfl
    | 2, _ => rfl
    | 3, _ => rfl
  have HC := Lib.hid hcs; clear hcs hcell2
  have n0 : (0 : Int) ≤ (n : Int) - 4 := by omega
  have n1 : (n : Int) - 4 ≤ n := by omega
  have n2 : (n : Int) - 4 ≤ cap := by omega
  have n3 : IntKind.i64.wrap ((n : Int) - 4) = (n : Int) - 4 := IntWalk.i64_in _ ⟨by omega, by omega⟩
  have n4 : ((n : Int) - 4).toNat = n - 4 := by omega
  have n5 : n - (n - 4) = 4 := by omega
  have n6 : ¬ cap = n - 4 := by omega
  have n7 : (4 : Int) ≤ n := by omega
  have n8 : 4 ≤ cap - (n - 4) := by omega
  rw [hf]
  clear hf
  generalize Pl.nth xs (n - 4) = x0 at *
  generalize Pl.nth xs (n - 4 + 1) = x1 at *
  generalize Pl.nth xs (n - 4 + 2) = x2 at *
  generalize Pl.nth xs (n - 4 + 3) = x3 at *
  unfold bv at *
  obtain ⟨r, hr⟩ : ∃ r, decide ([x0, x1, x2, x3] = [a, b, c, d]) = r := ⟨_, rfl⟩
  rw [hr]
  have HR := Lib.hid hr; clear hr
  go_enter Try.func83, Try.ntmps83
  go_wp2
  obtain ⟨W, hW⟩ : ∃ W, W = ((w.alloc (.cells #[.int .u8 a, .int .u8 b, .int .u8 c, .int .u8 d] 76)).alloc (.cells #[.int .u8 0, .int .u8 0, .int .u8 0, .int .u8 0] 76)) := ⟨_, rfl⟩
  rw [← hW]
  have hg1 : W.heap[w.heap.size + 1]? = some (.cells #[.int .u8 0, .int .u8 0, .int .u8 0, .int .u8 0] 76) := by rw [hW, heap_alloc2_new]
  have hg0 : W.heap[w.heap.size]? = some (.cells #[.int .u8 a, .int .u8 b, .int .u8 c, .int .u8 d] 76) := by rw [hW, heap_alloc2_old]
  have hbW : Below w.heap.size w W := by rw [hW]; exact ((Below.refl _ _).alloc (Nat.le_refl _) _).alloc (by simp) _
  have G1 := Lib.hid hg1
  have G0 := Lib.hid hg0
  have HW := Lib.hid hW
  clear hW hg1 hg0
  refine wp_region_still_tail 6 (by kernel_rfl) (by kernel_rfl) ?_
  simp only [List.take_succ_cons, List.take_zero, List.drop_succ_cons, List.drop_zero]
  change wpStill _ _ W.drew _ _ _
  repeat still_step
  refine wpStill_nil ?_
  change wpList _ _ _ _ _ W.drew
  refine wpList_copy_splice rfl _ _ _ _ rfl 5 Try.underlying27 (by kernel_rfl) _ _ 4 4 4 (cap - (n - 4)) rfl rfl (w.heap.size + 1) 0 [.int .u8 0, .int .u8 0, .int .u8 0, .int .u8 0] 76 G1.out
    [.int .u8 x0, .int .u8 x1, .int .u8 x2, .int .u8 x3] rfl ?c1 (by simp) ?c2 (w.heap.size + 1) W (Below.refl _ _).drew (Nat.le_refl _) ?_
  case c1 => exact fun _ => ⟨rfl, _, rfl, fun j v hv => by rw [add_none]; exact (hbW.cell (p := ⟨bl, off + (n - 4) + j, none⟩) hbl).trans (HC.out j v hv)⟩
  case c2 => simp [Value.oneCell']
  intro w2 hg2 hb2
  have c1 := fun j => cell_of_row w2 (w.heap.size + 1) j _ _ _ hg2.out
  have c0 := fun j => cell_of_row w2 w.heap.size j _ _ _ ((hb2.block w.heap.size (by omega)).trans G0.out)
  have c10 : w2.cell? ⟨w.heap.size + 1, 0, none⟩ = some (.int .u8 x0) := c1 0
  have c11 : w2.cell? ⟨w.heap.size + 1, 1, none⟩ = some (.int .u8 x1) := c1 1
  have c12 : w2.cell? ⟨w.heap.size + 1, 2, none⟩ = some (.int .u8 x2) := c1 2
  have c13 : w2.cell? ⟨w.heap.size + 1, 3, none⟩ = some (.int .u8 x3) := c1 3
  have c00 : w2.cell? ⟨w.heap.size, 0, none⟩ = some (.int .u8 a) := c0 0
  have c01 : w2.cell? ⟨w.heap.size, 1, none⟩ = some (.int .u8 b) := c0 1
  have c02 : w2.cell? ⟨w.heap.size, 2, none⟩ = some (.int .u8 c) := c0 2
  have c03 : w2.cell? ⟨w.heap.size, 3, none⟩ = some (.int .u8 d) := c0 3
  clear c1 c0
  have hbF := Lib.hid (hbW.trans (hb2.mono (by omega)))
  clear hb2 hbW n7 n6 n5 n4 n3
  have heq := eq_four x0 x1 x2 x3 a b c d w2
  rw [HR.out] at heq
  go_wp2
  go_ret
  exact ⟨rfl, hbF.out⟩

/-- What is sealed: all of it new. -/
theorem seal_any (A : Option Addr) (n cap : Nat) (xs : List Nat) (w : World) (h : Slc w A n cap xs) (hn : n ≤ 1000000) :
    Calls Try.prog 18 #[.slice A n cap] w (RetBytes w (Cr.sealed xs)) := by
  obtain ⟨i0, hi, hz0, hz1, hz2⟩ := info_parts info5
  have C1 := Lib.hid (fun w (h : Slc w A n cap xs) => tail_any A n cap xs w h)
  have H := Lib.hid h
  have hl := h.1
  have hc := h.2.1
  have hm := h.2.2.1
  clear h
  have e0 : (Value.agg ((Cr.tail (Cr.sum xs)).map bv).toArray) = .agg #[bv (Cr.sum xs % 256), bv (Cr.sum xs / 256 % 256), bv (Cr.sum xs / 65536 % 256), bv (Cr.sum xs / 16777216 % 256)] := rfl
  have hse : Cr.sealed xs = xs ++ [Cr.sum xs % 256, Cr.sum xs / 256 % 256, Cr.sum xs / 65536 % 256, Cr.sum xs / 16777216 % 256] := rfl
  have htl := Cr.tail_lt (Cr.sum xs)
  unfold Cr.tail at htl
  rw [e0] at C1
  rw [hse]
  generalize Cr.sum xs % 256 = t0 at *
  generalize Cr.sum xs / 256 % 256 = t1 at *
  generalize Cr.sum xs / 65536 % 256 = t2 at *
  generalize Cr.sum xs / 16777216 % 256 = t3 at *
  have TL := Lib.hid htl
  have HL := Lib.hid hl
  clear e0 hse htl hl
  go_enter Try.func18, Try.ntmps18
  go_wp2_with fail
  refine (C1.out _ H.out).mono ?_
  rintro e w1 ⟨rfl, hb1⟩
  unfold bv
  have n1 : IntKind.i64.wrap ((n : Int) + 4) = (n : Int) + 4 := IntWalk.i64_in _ ⟨by omega, by omega⟩
  obtain ⟨W, hW⟩ : ∃ W, W = w1.alloc (.cells #[.int .u8 t0, .int .u8 t1, .int .u8 t2, .int .u8 t3] 76) := ⟨_, rfl⟩
  have hbW : Below w.heap.size w W := by rw [hW]; exact hb1.alloc hb1.size _
  have hWs : W.heap.size = w1.heap.size + 1 := by rw [hW]; simp
  have hWg : W.heap[w1.heap.size]? = some (.cells ([t0, t1, t2, t3].map bv).toArray 76 (0, 0)) := by rw [hW, heap_alloc_new]; rfl
  have S2 := Lib.hid (slc_new [t0, t1, t2, t3] hWg TL.out (by simp))
  have hz1 := hb1.size
  obtain ⟨w2, hmk, hown2, hg2⟩ := run_make_own (P := Try.prog) W W.heap.size 27 5 i0 (.int .u8 0) 1 Try.underlying27 hi hz0 (by assumption) .i64 .i64 (n + 4) (by rw [hz2]; omega) (by unfold maxLen; omega) (Nat.le_refl _)
  rw [show (((n + 4 : Nat)) : Int) = (n : Int) + 4 by omega] at hmk
  have hb2 := (Below.refl W.heap.size W).grown hg2 (Nat.le_refl _) (fun k hk => by cases hk)
  have hz2' := hb2.size
  rw [hWs] at hmk hown2 hz2'
  rw [hW] at hmk
  have H3 := Lib.hid (H.out.below (hbW.trans (hb2.mono (by omega))))
  have hB2 := Lib.hid (hbW.trans (hb2.mono (by omega)))
  have MK := Lib.hid hmk
  have O2 := Lib.hid hown2
  clear hmk hown2 hg2 hWg
  have HW := Lib.hid hW
  clear hW
  have hmk := MK.out
  go_wp2_with (at_builtin; refine wpList_append_slc rfl _ _ rfl (w1.heap.size + 1) _ 0 [] rfl O2.out A n cap xs rfl H3.out (by omega) hz2' ?_)
  clear MK hmk
  intro v3 w3 hown3 hg3
  have hb3 := (Below.refl (w1.heap.size + 1) w2).grown hg3 hz2' (fun k hk => (O2.out.lt k hk).1)
  have S4 := Lib.hid (S2.out.below (hb2.trans (hb3.mono (by omega))))
  have O3 := Lib.hid hown3
  have hz3 := hb3.size
  have hB3 := Lib.hid (hB2.out.trans (hb3.mono (by omega)))
  clear hown3
  go_wp2_with (at_builtin; refine wpList_append_slc rfl _ _ rfl (w1.heap.size + 1) v3 _ _ rfl O3.out _ 4 4 [t0, t1, t2, t3] rfl S4.out (by omega) (by omega) ?_)
  intro v4 w4 hown4 hg4
  have hB4 := Lib.hid (hB3.out.grown hg4 (by omega) (fun k hk => by have := (O3.out.lt k hk).1; omega))
  have O4 := Lib.hid (show w4.ownsRow (w1.heap.size + 1) 5 1 v4 (n + 4) ((xs ++ [t0, t1, t2, t3]).map bv) by simpa using hown4)
  clear hown4 hg4 hg3 hb3
  go_wp2
  go_ret
  exact ret_own O4.out (by omega) hB4.out
end Go.Proofs.Ythgfbnkggdlokaa
