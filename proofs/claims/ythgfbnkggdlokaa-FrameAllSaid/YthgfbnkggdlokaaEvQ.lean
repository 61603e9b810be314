/-
  The walk of event.Put.
-/
import Derived.Test.YthgfbnkggdlokaaEvP
namespace Go.Proofs.Ythgfbnkggdlokaa
open Go.RowKit
set_option maxRecDepth 100000

theorem Blk.belo {w w' : World} {b B : Nat} {cs : Array Value} {t : TypeId} (h : Blk w b cs t) (hb : b < B) (hu : Below B w w') : Blk w' b cs t := by
  have := hu.block b hb
  unfold Blk at *; rw [this]; exact h
theorem own_new (w : World) (B : Nat) (xs : List Nat) (hB : B ≤ w.heap.size) (hx : xs.length ≤ 1000) : (w.alloc (.cells (xs.map bv).toArray 5)).ownsRow B 5 1 (.slice (some ⟨w.heap.size, 0, none⟩) xs.length xs.length) xs.length (xs.map bv) :=
  ⟨by simp, Or.inr ⟨w.heap.size, xs.length, _, rfl, hB, heap_alloc_new _ _, Nat.le_refl _, by simp only [maxLen]; omega, by simp, List.take_of_length_le (by simp)⟩⟩
namespace Ev
theorem others_len (r : Int) (c : Ck) : ∀ i, (others r c i).length ≤ 11 * i
  | 0 => Nat.le_refl _
  | i + 1 => by
    have h1 := others_len r c i
    have h2 := Pl.put_len (c.get i).toNat
    simp only [others, List.length_append]
    split <;> simp <;> omega
/-- What the edit of an event that may be is. -/
theorem edit_zero {x : Ed} (h : Tx.edit x = 0) : 1 ≤ x.k ∧ x.k ≤ 5 ∧ Tx.key x.key = 0 ∧ (x.k = 1 ∨ x.k = 2 → x.l = 0 ∧ x.v.size = 0) ∧ (¬ (x.k = 1 ∨ x.k = 2) → (x.l = 0 ∨ x.l = 1) ∧ 1 ≤ x.v.size ∧ x.v.size ≤ 12) := by
  unfold Tx.edit at h
  by_cases h1 : x.k < 1 ∨ 5 < x.k
  · rw [if_pos h1] at h; omega
  rw [if_neg h1] at h
  by_cases h2 : Tx.key x.key = 0
  rotate_left
  · rw [if_pos h2] at h; exact absurd h h2
  rw [if_neg (by simpa using h2)] at h
  refine ⟨by omega, by omega, h2, fun h3 => ?_, fun h3 => ?_⟩
  · rw [if_pos h3, Tx.bareOf] at h
    by_cases h4 : x.l = 0
    · rw [if_neg (by simpa using h4)] at h
      by_cases h5 : x.v.size = 0
      · exact ⟨h4, h5⟩
      · rw [if_pos h5] at h; omega
    · rw [if_pos h4] at h; omega
  · rw [if_neg h3, Tx.fullOf] at h
    by_cases h4 : Tx.label x.l = 0
    · rw [if_neg (by simpa using h4)] at h
      unfold Tx.label at h4
      unfold Tx.value at h
      split at h4
      · rename_i h5
        split at h
        · rename_i h6; exact ⟨h5, h6⟩
        · omega
      · omega
    · rw [if_pos h4] at h; exact absurd h h4
theorem edit_of {x : Ed} (h1 : 1 ≤ x.k) (h5 : x.k ≤ 5) (hk : Tx.key x.key = 0) (hb : x.k = 1 ∨ x.k = 2 → x.l = 0 ∧ x.v.size = 0) (hf : ¬ (x.k = 1 ∨ x.k = 2) → (x.l = 0 ∨ x.l = 1) ∧ 1 ≤ x.v.size ∧ x.v.size ≤ 12) : Tx.edit x = 0 := by
  unfold Tx.edit
  rw [if_neg (by omega), if_neg (by simpa using hk)]
  by_cases h3 : x.k = 1 ∨ x.k = 2
  · rw [if_pos h3, Tx.bareOf, if_neg (by simpa using (hb h3).1), if_neg (by simpa using (hb h3).2)]
  · rw [if_neg h3, Tx.fullOf]
    have h6 : Tx.label x.l = 0 := by rw [Tx.label, if_pos (hf h3).1]
    rw [if_neg (by simpa using h6), Tx.value, if_pos (hf h3).2]
theorem key_size {s : ByteArray} (h : Tx.key s = 0) : 1 ≤ s.size ∧ s.size ≤ 8 := by
  by_cases h1 : s.size < 1 ∨ 8 < s.size
  · rw [Tx.key_len h1] at h; omega
  · omega
theorem isW_false (k : Int) (h : isW k = false) : k = 1 ∨ k = 2 := by
  unfold isW at h
  rw [decide_eq_false_iff_not] at h
  omega
theorem isW_true (k : Int) (h : isW k = true) : ¬ (k = 1 ∨ k = 2) := by
  unfold isW at h
  rw [decide_eq_true_iff] at h
  omega
end Ev

def put12 (w : World) (b : Nat) (e : Ev) : World :=
  (((((((((((w.setCell ⟨b, 0, none⟩ (.int .i64 e.r)).setCell ⟨b, 1, none⟩ (.int .i64 e.n)).setCell ⟨b, 2, none⟩ (.int .i64 e.c.c0)).setCell ⟨b, 3, none⟩ (.int .i64 e.c.c1)).setCell ⟨b, 4, none⟩ (.int .i64 e.c.c2)).setCell ⟨b, 5, none⟩ (.int .i64 e.c.c3)).setCell ⟨b, 6, none⟩ (.int .i64 e.c.c4)).setCell ⟨b, 7, none⟩ (.int .i64 e.h)).setCell ⟨b, 8, none⟩ (.int .i64 e.k)).setCell ⟨b, 9, none⟩ (.string e.key)).setCell ⟨b, 10, none⟩ (.int .i64 e.l)).setCell ⟨b, 11, none⟩ (.string e.v)
theorem put12_blk {w : World} {b : Nat} {e0 : Ev} {t : TypeId} (h : Blk w b e0.cells t) (e : Ev) : Blk (put12 w b e) b e.cells t := by
  have := (((((((((((h.set 0 (.int .i64 e.r)).set 1 (.int .i64 e.n)).set 2 (.int .i64 e.c.c0)).set 3 (.int .i64 e.c.c1)).set 4 (.int .i64 e.c.c2)).set 5 (.int .i64 e.c.c3)).set 6 (.int .i64 e.c.c4)).set 7 (.int .i64 e.h)).set 8 (.int .i64 e.k)).set 9 (.string e.key)).set 10 (.int .i64 e.l)).set 11 (.string e.v)
  simp only [Ev.cells, List.setIfInBounds_toArray, List.set_cons_zero, List.set_cons_succ] at this
  exact this
theorem put12_below {w0 w : World} {B b : Nat} (h : Below B w0 w) (hb : B ≤ b) (e : Ev) : Below B w0 (put12 w b e) := by
  unfold put12
  iterate 12 refine Below.setCell ?_ hb _
  exact h
theorem Blk.all (w : World) {b : Nat} {e : Ev} {t : TypeId} (h : Blk w b e.cells t) : w.cell? ⟨b, 0, none⟩ = some (.int .i64 e.r) ∧ w.cell? ⟨b, 1, none⟩ = some (.int .i64 e.n) ∧ w.cell? ⟨b, 2, none⟩ = some (.int .i64 e.c.c0) ∧ w.cell? ⟨b, 3, none⟩ = some (.int .i64 e.c.c1) ∧ w.cell? ⟨b, 4, none⟩ = some (.int .i64 e.c.c2) ∧ w.cell? ⟨b, 5, none⟩ = some (.int .i64 e.c.c3) ∧ w.cell? ⟨b, 6, none⟩ = some (.int .i64 e.c.c4) ∧
    w.cell? ⟨b, 7, none⟩ = some (.int .i64 e.h) ∧ w.cell? ⟨b, 8, none⟩ = some (.int .i64 e.k) ∧ w.cell? ⟨b, 9, none⟩ = some (.string e.key) ∧ w.cell? ⟨b, 10, none⟩ = some (.int .i64 e.l) ∧ w.cell? ⟨b, 11, none⟩ = some (.string e.v) := ⟨h.cell rfl, h.cell rfl, h.cell rfl, h.cell rfl, h.cell rfl, h.cell rfl, h.cell rfl, h.cell rfl, h.cell rfl, h.cell rfl, h.cell rfl, h.cell rfl⟩
def PutEvRel (B : Nat) (W : World) (hd : List Nat) (r : Int) (c : Ck) (v5 v28 : Value) (wr : World) : Prop :=
  ∃ (i : Nat) (xs : List Nat), i ≤ 5 ∧ v28 = .int .i64 i ∧ Hid (xs = hd ++ Ev.others r c i) ∧ Hid (wr.ownsRow B 5 1 v5 xs.length (xs.map bv)) ∧ Hid (Below B W wr)

set_option maxRecDepth 100000 in
set_option maxHeartbeats 4000000 in
theorem evput_any (e : Ev) (w : World) :
    Calls Try.prog 101 #[e.val] w fun x w' => ∃ v, x = .returned (.tuple #[v, .int .i64 (Ev.may e)]) ∧ w'.ownsRow w.heap.size 5 1 v (Ev.out e).length ((Ev.out e).map bv) ∧ Below w.heap.size w w' := by
  have CM := Lib.hid (fun w => evmay_any e w)
  have CP := Lib.hid (fun m w h => put_any m w h)
  have CW := Lib.hid (fun w => isWrite_any e.k w)
  have CT := Lib.hid (fun n v xs s W h1 h2 h3 h4 => withText_any (w.heap.size + 1) n v xs s W h1 h2 h3 h4)
  have KA := Lib.hid (Blk.new w e.cells 51)
  have U0 := Lib.hid (show Below w.heap.size w (w.alloc (.cells e.cells 51)) from (Below.refl w.heap.size w).alloc (Nat.le_refl _) _)
  have HO := Lib.hid (show Ev.out e = if Ev.may e = 0 then Ev.bytes e else [] from rfl)
  have HG := Lib.hid (fun h => (Ev.good_iff e).1 h)
  obtain ⟨W, hW⟩ : ∃ W, W = w.alloc (.cells e.cells 51) := ⟨_, rfl⟩
  have HZ := Lib.hid (show w.heap.size + 1 ≤ W.heap.size by rw [hW]; simp)
  rw [← hW] at KA U0
  obtain ⟨z, hz⟩ : ∃ z, Ev.may e = z := ⟨_, rfl⟩
  rw [hz] at HO CM HG ⊢
  clear hz
  unfold Ev.cells at hW
  unfold Ev.val at *
  go_enter Try.func101, Try.ntmps101
  go_upto_region 1 with (fail)
  refine wp_named (fun W2 hW2 => ?_)
  obtain rfl : W2 = W := by rw [hW2, hW]
  clear hW hW2
  obtain ⟨a0, a1⟩ := KA.out.rn
  obtain ⟨b0, b1, b2, b3, b4⟩ := KA.out.ctx
  obtain ⟨c0, c1⟩ := KA.out.hk
  obtain ⟨_, d1, d2, d3⟩ := KA.out.kklv
  go_wp2_with fail
  refine (CM.out _).mono ?_
  rintro x w1 ⟨rfl, hb1⟩
  have U1 := Lib.hid (show Below (w.heap.size + 1) W2 w1 from hb1.mono HZ.out)
  have UW := Lib.hid (show Below w.heap.size w W2 from U0.out)
  clear a0 a1 b0 b1 b2 b3 b4 c0 c1 d1 d2 d3 CM U0
  by_cases hz : z = 0
  rotate_left
  · have hz0 : (z == 0) = false := by simpa using hz
    rw [if_neg hz] at HO
    clear HG
    go_wp2
    go_ret2
    exact ⟨_, rfl, by rw [HO.out]; exact World.ownsRow_nil _ _ _ _, UW.out.trans (U1.out.mono (by omega))⟩
  subst hz
  have G := Lib.hid (HG.out rfl)
  rw [if_pos rfl] at HO
  clear HG hb1
  have KB := Lib.hid (show ∀ w', Below (w.heap.size + 1) W2 w' → Blk w' w.heap.size e.cells 51 from fun w' h => KA.out.belo (Nat.lt_succ_self _) h)
  clear KA
  obtain ⟨E1, E5, EK, EB, EF⟩ := Ev.edit_zero G.out.ed
  have HB := Lib.hid EB; have HF := Lib.hid EF; have HK := Lib.hid (Ev.key_size EK)
  have HC := Lib.hid G.out.c
  have G0 := G.out.r0; have G1 := G.out.r5; have G2 := G.out.n1; have G3 := G.out.nM; have G4 := G.out.h1; have G5 := G.out.hM
  clear EB EF EK G
  obtain ⟨r, n, c, h, k, key, l, v⟩ := e
  simp only [Ev.ed] at E1 E5 HB HF HK HC G0 G1 G2 G3 G4 G5
  obtain ⟨n, rfl⟩ : ∃ m : Nat, n = m := ⟨n.toNat, by omega⟩
  obtain ⟨h, rfl⟩ : ∃ m : Nat, h = m := ⟨h.toNat, by omega⟩
  have wr : IntKind.u8.wrap r = r := by rw [IntKind.wrap_u8]; omega
  have wk : IntKind.u8.wrap k = k := by rw [IntKind.wrap_u8]; omega
  have wn : IntKind.u64.wrap (n : Int) = n := by rw [IntKind.wrap_u64]; omega
  have wh : IntKind.u64.wrap (h : Int) = h := by rw [IntKind.wrap_u64]; omega
  obtain ⟨a0, a1⟩ := (KB.out w1 U1.out).rn
  obtain ⟨c0, c1⟩ := (KB.out w1 U1.out).hk
  go_upto_region 5 with (fail)
  clear a0 a1 c0 c1
  refine wp_named (fun W3 hW3 => ?_)
  have O3 := Lib.hid (show W3.ownsRow (w.heap.size + 1) 5 1 (.slice (some ⟨w1.heap.size, 0, none⟩) 2 2) [k.toNat, r.toNat].length ([k.toNat, r.toNat].map bv) by
    have h1 := own_new w1 (w.heap.size + 1) [k.toNat, r.toNat] (Nat.le_trans HZ.out U1.out.size) (by simp)
    have e1 : ([k.toNat, r.toNat].map bv).toArray = #[.int .u8 k, .int .u8 r] := by
      simp only [bv, List.map_cons, List.map_nil, Int.toNat_of_nonneg (show 0 ≤ k by omega), Int.toNat_of_nonneg (show 0 ≤ r by omega)]
    rw [e1] at h1
    rw [hW3]; exact h1)
  have U3 := Lib.hid (show Below (w.heap.size + 1) W2 W3 by rw [hW3]; exact U1.out.alloc (Nat.le_trans HZ.out U1.out.size) _)
  clear hW3 U1
  obtain ⟨a0, a1⟩ := (KB.out W3 U3.out).rn
  obtain ⟨l0, hl0⟩ : ∃ l0, [k.toNat, r.toNat] = l0 := ⟨_, rfl⟩
  rw [hl0] at O3
  have L0 : l0.length = 2 := by rw [← hl0]; rfl
  have H0 := Lib.hid hl0
  clear hl0
  go_wp2_with fail
  clear a0 a1
  refine (CP.out n _ ((by omega))).mono ?_
  rintro x w4 ⟨A, cap, rfl, hown, hb⟩
  have S2 := Lib.hid (slc_of_own hown (Pl.put_lt ((by omega))))
  have U2 := Lib.hid (U3.out.trans (hb.mono (Nat.le_trans HZ.out U3.out.size)))
  have O2 := Lib.hid (own_up O3.out hb)
  have Z2 : w.heap.size + 1 ≤ w4.heap.size := Nat.le_trans HZ.out U2.out.size
  have PL := Pl.put_len n
  have OB := Lib.hid (own_base O3.out)
  clear hown hb
  generalize hys : Pl.put n = ys at *
  go_wp2_with (at_builtin; refine wpList_append_slc rfl _ _ rfl (w.heap.size + 1) (.slice (some ⟨w1.heap.size, 0, none⟩) 2 2) l0.length l0 rfl O2.out A ys.length cap ys rfl S2.out (by omega) Z2 ?_)
  intro v5 w5 hown3 hg3
  have U5 := Lib.hid (Below.grown U2.out hg3 Z2 OB.out)
  have O5 := Lib.hid (show w5.ownsRow (w.heap.size + 1) 5 1 v5 (l0 ++ ys).length ((l0 ++ ys).map bv) by first | (simpa using hown3) | (simpa [L0] using hown3))
  clear hown3 hg3 S2 U2 O2 Z2 OB
  subst hys
  have L5 : (l0 ++ Pl.put n).length ≤ 13 := by rw [List.length_append]; omega
  generalize hhd : l0 ++ Pl.put n = hd at *
  have HX := Lib.hid (show ∀ j, j < 5 → ∀ w, (Instr.index 23 (.agg #[.int .i64 c.c0, .int .i64 c.c1, .int .i64 c.c2, .int .i64 c.c3, .int .i64 c.c4]) (.int .i64 (j : Nat))).run Try.prog w = .ok (.int .i64 (c.get j)) w from fun j hj w => by
    match j, hj with
    | 0, _ | 1, _ | 2, _ | 3, _ | 4, _ => go_simp; rfl)
  have HD := Lib.hid hhd
  clear hhd PL L0 U3 O3
  obtain ⟨b0, b1, b2, b3, b4⟩ := (KB.out w5 U5.out).ctx
  go_wp2
  clear b0 b1 b2 b3 b4
  go_loopw [5, 28] (fun v5 v28 wr => PutEvRel (w.heap.size + 1) W2 hd r c v5 v28 wr) (fun _ v28 _ => 5 - (intOf v28).toNat)
  case atStart => exact ⟨0, hd, by omega, rfl, Lib.hid (by simp [Ev.others]), O5, U5⟩
  case round =>
    obtain ⟨i, xs, hi, rfl, HXS, O1, U1⟩ := hrel
    have LX : xs.length ≤ 68 := by have := Ev.others_len r c i; rw [HXS.out, List.length_append]; omega
    clear O5 U5
    by_cases h5 : i < 5
    · have h5' : (i : Int) < 5 := by omega
      have hx := HX.out i h5
      obtain ⟨a0, a1⟩ := (KB.out wr U1.out).rn
      have HCi := HC.out i h5
      have HOT := Lib.hid (show Ev.others r c (i + 1) = Ev.others r c i ++ if (i : Int) = r then [] else Pl.put (c.get i).toNat from rfl)
      obtain ⟨m, hm⟩ : ∃ m : Nat, c.get i = m := ⟨(c.get i).toNat, by omega⟩
      rw [hm] at hx HOT HCi
      clear hm
      have wm : IntKind.u64.wrap (m : Int) = m := by rw [IntKind.wrap_u64]; omega
      by_cases hir : (i : Int) = r
      · have d0 : ((i : Int) == r) = true := by simpa using hir
        have d1 : ((i : Int) != r) = false := by simp [bne, d0]
        rw [if_pos hir] at HOT
        clear hir
        go_wp2
        go_roundw
        case rel => exact ⟨i + 1, xs, by omega, by go_num, Lib.hid (by rw [HOT.out, HXS.out]; simp), O1, U1⟩
        case measure => simp [intOf]; omega
      · have d0 : ((i : Int) == r) = false := by simpa using hir
        have d1 : ((i : Int) != r) = true := by simp [bne, d0]
        rw [if_neg hir] at HOT
        clear hir
        go_wp2_with fail
        clear a0 a1 hx
        refine (CP.out m _ ((by omega))).mono ?_
        rintro x w6 ⟨A, cap, rfl, hown, hb⟩
        have S2 := Lib.hid (slc_of_own hown (Pl.put_lt ((by omega))))
        have U2 := Lib.hid (U1.out.trans (hb.mono (Nat.le_trans HZ.out U1.out.size)))
        have O2 := Lib.hid (own_up O1.out hb)
        have Z2 : w.heap.size + 1 ≤ w6.heap.size := Nat.le_trans HZ.out U2.out.size
        have PL := Pl.put_len m
        have OB := Lib.hid (own_base O1.out)
        clear hown hb
        generalize hys : Pl.put m = ys at *
        go_wp2_with (at_builtin; refine wpList_append_slc rfl _ _ rfl (w.heap.size + 1) _ xs.length xs rfl O2.out A ys.length cap ys rfl S2.out (by omega) Z2 ?_)
        intro v7 w7 hown3 hg3
        have U7 := Lib.hid (Below.grown U2.out hg3 Z2 OB.out)
        have O7 := Lib.hid (show w7.ownsRow (w.heap.size + 1) 5 1 v7 (xs ++ ys).length ((xs ++ ys).map bv) by first | (simpa using hown3) | (simpa [L0] using hown3))
        clear hown3 hg3 S2 U2 O2 Z2 OB
        subst hys
        go_wp2
        go_roundw
        case rel => exact ⟨i + 1, xs ++ Pl.put m, by omega, by go_num, Lib.hid (by rw [HOT.out, HXS.out]; simp), O7, U7⟩
        case measure => simp [intOf]; omega
    · obtain rfl : i = 5 := by omega
      clear hi h5 HX
      obtain ⟨a0, a1⟩ := (KB.out wr U1.out).hk
      go_wp2_with fail
      clear a0 a1
      refine (CP.out h _ ((by omega))).mono ?_
      rintro x w6 ⟨A, cap, rfl, hown, hb⟩
      have S2 := Lib.hid (slc_of_own hown (Pl.put_lt ((by omega))))
      have U2 := Lib.hid (U1.out.trans (hb.mono (Nat.le_trans HZ.out U1.out.size)))
      have O2 := Lib.hid (own_up O1.out hb)
      have Z2 : w.heap.size + 1 ≤ w6.heap.size := Nat.le_trans HZ.out U2.out.size
      have PL := Pl.put_len h
      have OB := Lib.hid (own_base O1.out)
      clear hown hb
      generalize hys : Pl.put h = ys at *
      go_wp2_with (at_builtin; refine wpList_append_slc rfl _ _ rfl (w.heap.size + 1) _ xs.length xs rfl O2.out A ys.length cap ys rfl S2.out (by omega) Z2 ?_)
      intro v7 w7 hown3 hg3
      have U7 := Lib.hid (Below.grown U2.out hg3 Z2 OB.out)
      have O7 := Lib.hid (show w7.ownsRow (w.heap.size + 1) 5 1 v7 (xs ++ ys).length ((xs ++ ys).map bv) by first | (simpa using hown3) | (simpa [L0] using hown3))
      clear hown3 hg3 S2 U2 O2 Z2 OB
      subst hys
      obtain ⟨_, a1, _, _⟩ := (KB.out w7 U7.out).kklv
      have KZ := HK.out
      have L7 : (xs ++ Pl.put h).length ≤ 79 := by rw [List.length_append]; omega
      go_wp2_with fail
      clear a1
      refine (CT.out (xs ++ Pl.put h).length _ (xs ++ Pl.put h) key w7 O7.out (Nat.le_trans HZ.out U7.out.size) (by omega) (by omega)).mono ?_
      rintro x w8 ⟨v8, rfl, hown, hb⟩
      have U8 := Lib.hid (U7.out.trans hb)
      have O8 := Lib.hid (show w8.ownsRow (w.heap.size + 1) 5 1 v8 (xs ++ Pl.put h ++ Ev.txt key).length ((xs ++ Pl.put h ++ Ev.txt key).map bv) by
        have e1 : (xs ++ Pl.put h ++ Ev.txt key).length = (xs ++ Pl.put h).length + 1 + key.size := by simp only [Ev.txt, List.length_append, List.length_cons, Ev.raw_len]; omega
        rw [e1]; exact hown)
      have L8 : (xs ++ Pl.put h ++ Ev.txt key).length ≤ 88 := by
        have e1 : (xs ++ Pl.put h ++ Ev.txt key).length = (xs ++ Pl.put h).length + 1 + key.size := by simp only [Ev.txt, List.length_append, List.length_cons, Ev.raw_len]; omega
        rw [e1]; omega
      clear hown hb U7 O7 L7
      generalize hys : xs ++ Pl.put h ++ Ev.txt key = ys at *
      have HY := Lib.hid hys
      clear hys U1 O1
      obtain ⟨a0, _, a2, a3⟩ := (KB.out w8 U8.out).kklv
      go_wp2_with fail
      refine (CW.out _).mono ?_
      rintro x w9 ⟨rfl, rfl⟩
      cases hw : Ev.isW k
      · go_wp2
        go_ret2
        have e1 : Ev.out ⟨r, n, c, h, k, key, l, v⟩ = ys := by
          rw [HO.out, ← HY.out, HXS.out, ← HD.out, ← H0.out]
          simp [Ev.bytes, Ev.tail, hw]
        exact ⟨v8, rfl, by rw [e1]; exact own_mono O8.out (by omega), UW.out.trans (U8.out.mono (by omega))⟩
      · have hl := HF.out (Ev.isW_true k hw)
        have LV : v.size ≤ 12 := hl.2.2
        have l0' : 0 ≤ l := by have := hl.1; omega
        have wl : IntKind.u8.wrap l = l := by rw [IntKind.wrap_u8]; have := hl.1; omega
        have ZW : w.heap.size + 1 ≤ w9.heap.size := Nat.le_trans HZ.out U8.out.size
        have e1 : Ev.out ⟨r, n, c, h, k, key, l, v⟩ = ys ++ [l.toNat] ++ Ev.txt v := by
          rw [HO.out, ← HY.out, HXS.out, ← HD.out, ← H0.out]
          simp [Ev.bytes, Ev.tail, hw]
        have HE := Lib.hid e1
        have el : bv l.toNat = .int .u8 l := by unfold bv; rw [Int.toNat_of_nonneg l0']
        have OA := Lib.hid (show (w9.alloc (.cells #[.int .u8 l] 5)).drew.ownsRow (w.heap.size + 1) 5 1 v8 ys.length (ys.map bv) from O8.out.alloc _)
        have SA := Lib.hid (show Sl (w9.alloc (.cells #[.int .u8 l] 5)).drew 1 (some ⟨w9.heap.size, 0, none⟩) 1 1 [.int .u8 l] from Sl.of_blk (Blk.new w9 #[.int .u8 l] 5) rfl (by decide))
        have UA := Lib.hid (show Below (w.heap.size + 1) W2 (w9.alloc (.cells #[.int .u8 l] 5)).drew from (U8.out.alloc ZW _).drew)
        have ZA : w.heap.size + 1 ≤ (w9.alloc (.cells #[.int .u8 l] 5)).drew.heap.size := by simp; omega
        have OB := Lib.hid (own_base O8.out)
        have TX := Lib.hid (show ∀ u, (ys ++ [l.toNat] ++ Ev.txt u).length = ys.length + 1 + 1 + u.size from fun u => by simp only [Ev.txt, List.length_append, List.length_cons, List.length_nil, Ev.raw_len]; omega)
        clear hl l0' hw HB HF HK HC e1 HXS HD H0 HY HO
        have a4 : (w9.alloc (.cells #[.int .u8 l] 5)).cell? ⟨w.heap.size, 11, none⟩ = some (.string v) := (KB.out _ UA.out).kklv.2.2.2
        clear O8
        go_wp2
        go_region_law (first
          | (refine ES8.step_append (by rfl) (.tmp 55) (.tmp 59) rfl (w.heap.size + 1) v8 ys.length (ys.map bv) (by rfl) OA.out (some ⟨w9.heap.size, 0, none⟩) 1 1 [.int .u8 l] (by rfl) SA.out (by simp [Value.oneCell']) (by omega) (by simp only [maxLen]; omega) ZA ?_
             intro v10 w10 hown10 hg10
             have U10 := Lib.hid (Below.grown UA.out hg10 ZA OB.out)
             have O10 := Lib.hid (show w10.ownsRow (w.heap.size + 1) 5 1 v10 (ys.length + 1) ((ys ++ [l.toNat]).map bv) by rw [List.map_append, List.map_cons, el, List.map_nil]; exact hown10)
             have Z10 : w.heap.size + 1 ≤ w10.heap.size := Nat.le_trans HZ.out U10.out.size
             have ⟨_, _, q2, q3⟩ := (KB.out w10 U10.out).kklv
             clear hown10 hg10)
          | (refine step_callx (by rfl) (CT.out (ys.length + 1) v10 (ys ++ [l.toNat]) v w10 O10.out Z10 (by omega) (by omega)) (by go_simp) ?_
             rintro x w11 ⟨v11, rfl, hown11, hb11⟩
             refine ⟨_, rfl, ?_⟩
             have U11 := Lib.hid (U10.out.trans hb11)
             have O11 := Lib.hid hown11
             clear hown11 hb11))
        all_goals (go_wp2; go_ret2; exact ⟨v11, rfl, by rw [HE.out, TX.out v]; exact own_mono O11.out (by omega), UW.out.trans (U11.out.mono (by omega))⟩)
theorem eput_any (e : Ev) (w : World) (_ : -9223372036854775808 ≤ e.n - 1) (_ : e.n ≤ 9223372036854775807) :
    Calls Try.prog 101 #[e.val] w fun x w' => ∃ v, x = .returned (.tuple #[v, .int .i64 (Ev.may e)]) ∧ w'.ownsRow w.heap.size 5 1 v (Ev.out e).length ((Ev.out e).map bv) ∧ Below w.heap.size w w' := evput_any e w
end Go.Proofs.Ythgfbnkggdlokaa
