/-
  The walk of ClockChain.
-/
import Derived.Test.YtieldmgfhdhcdaaLaws3D
namespace Go.Proofs.Ytieldmgfhdhcdaa
open Go.RowKit
attribute [local go_sem ↓] Go.wp_at_zero Go.wp_at_succ

theorem Ck.join_of_le {a b : Ck} (h : Ck.le a b = true) : Ck.join a b = b := by
  have := Ck.le_eq_join a b
  rw [h] at this
  unfold Ck.eqB at this
  exact of_decide_eq_true this
theorem Ck.set_set (c : Ck) (k : Nat) (x y : Int) : (c.set k x).set k y = c.set k y := by
  unfold Ck.set
  congr 1 <;> split <;> simp_all
theorem Ck.set_get (c : Ck) (k : Nat) (h : k < 5) : c.set k (c.get k) = c := by
  rw [Ck.ext_iff']
  match k, h with
  | 0, _ | 1, _ | 2, _ | 3, _ | 4, _ => simp [Ck.set, Ck.get]
theorem Ck.has_just (A : Ck) (k : Nat) (x : Int) (hk : k < 5) (h0 : 1 ≤ x) : Ck.has (A.set k x) k x = true ∧ Ck.has (A.set k (x - 1)) k x = false := by
  have hr : Ck.rep (k : Int) = true := by simp [Ck.rep]; omega
  unfold Ck.has
  rw [hr, Int.toNat_natCast, Ck.get_set _ _ _ _ hk, Ck.get_set _ _ _ _ hk]
  simp
  omega
/-- How the clock is, i rounds on. -/
def Ck.on (A : Ck) (k : Nat) (i : Nat) : Ck := A.set k (A.get k + i)
theorem Ck.on_get (A : Ck) (k i : Nat) (h : k < 5) : (A.on k i).get k = A.get k + i := by unfold Ck.on; rw [Ck.get_set _ _ _ _ h, if_pos rfl]

def ChainRel (A : Ck) (k m : Nat) (w : World) (C : Nat) (v : Value) (w' : World) : Prop :=
  ∃ i : Nat, i ≤ m ∧ v = .int .i64 i ∧ Blk w' C (A.on k i).cells 23 ∧ Blk w' w.heap.size A.cells 23 ∧ Below w.heap.size w w'

set_option maxRecDepth 100000 in
set_option maxHeartbeats 4000000 in
theorem law_chain (a : Ck) (r n : Nat) (w : World) (hr : r < 256) (hn : n < 256) :
    Calls Try.prog 7 #[a.val, .int .u8 r, .int .u8 n] w fun e w' => e = .returned (.bool true) ∧ Below w.heap.size w w' := by
  have C0 := Lib.hid (fun w => shown_any w)
  have r0 : (0 : Int) ≤ r := by omega
  have r1 : (r : Int) ≤ 255 := by omega
  have n0 : (0 : Int) ≤ n := by omega
  have n1 : (n : Int) ≤ 255 := by omega
  unfold Ck.val
  go_enter Try.func7, Try.ntmps7
  go_wp2_with fail
  refine (C0.out _).mono ?_
  rintro e w1 ⟨rfl, hb1⟩
  have HK := Lib.hid ((Blk.new w #[.int .i64 a.c0, .int .i64 a.c1, .int .i64 a.c2, .int .i64 a.c3, .int .i64 a.c4] 23).up hb1)
  have HB := Lib.hid (((Below.refl w.heap.size w).alloc (Nat.le_refl _) (.cells #[.int .i64 a.c0, .int .i64 a.c1, .int .i64 a.c2, .int .i64 a.c3, .int .i64 a.c4] 23)).trans (hb1.mono (by simp)))
  clear hb1
  go_wp2
  go_loopw [8] (fun v wr => MaskRel a 512 w.heap.size (fun w' => Below w.heap.size w w') v wr) (fun v _ => 5 - (intOf v).toNat)
  case atStart => exact ⟨0, by omega, rfl, by rw [Ck.mask_zero]; exact HK.out, HB.out⟩
  case round =>
    clear HK HB
    obtain ⟨k, hk, rfl, hK, hBl⟩ := hrel
    have HK := Lib.hid hK; have HB := Lib.hid hBl
    clear hK hBl
    by_cases h5 : k < 5
    · have h5' : (k : Int) < 5 := by omega
      have hc := HK.out.ck.2 k h5
      rw [Ck.mask_get _ _ _ h5] at hc
      have hf := HK.out.frozen k
      have hm := i64_and511 (a.get k)
      go_wp2
      go_roundw
      case rel => exact ⟨k + 1, by omega, by go_num, by
        have := HK.out.set k (.int .i64 (a.get k % 512))
        rwa [Ck.cells_set _ _ _ h5, Ck.mask_set _ _ _ h5] at this, HB.out.setCell (by simp) _⟩
      case measure => simp [intOf]; omega
    · obtain rfl : k = 5 := by omega
      have hA : ∀ j, j < 5 → 0 ≤ (a.mask 512 5).get j ∧ (a.mask 512 5).get j < 512 := fun j hj => by
        rw [Ck.mask_all]
        match j, hj with
        | 0, _ | 1, _ | 2, _ | 3, _ | 4, _ => simp only [Ck.get]; omega
      have hW : (a.mask 512 5).Wf := by
        rw [Ck.mask_all]; unfold Ck.Wf Ck.In; simp only []; omega
      generalize a.mask 512 5 = A at *
      have hk5 : (r : Int) % 5 = ((r % 5 : Nat) : Int) := by omega
      have hkl : r % 5 < 5 := Nat.mod_lt _ (by omega)
      generalize r % 5 = k at *
      have hk5' : (k : Int) < 5 := by omega
      have hm64 : (n : Int) % 64 = ((n % 64 : Nat) : Int) := by omega
      have hml : n % 64 < 64 := Nat.mod_lt _ (by omega)
      generalize n % 64 = m at *
      obtain ⟨hA0, hA1⟩ := hA k hkl
      have CN := Lib.hid (fun (i : Nat) (w : World) (hi : i < 64) => by
        have hg : (A.on k i).get ((k : Int).toNat) = A.get k + i := by rw [Int.toNat_natCast, Ck.on_get _ _ _ hkl]
        have := next_any (A.on k i) k w (Ck.set_wf hW k ⟨by omega, by omega⟩)
        unfold NextVal at this
        have hx := next_ok (a := A.on k i) (r := (k : Int)) (by omega) (by rw [hg]; omega)
        rw [hx.1, hx.2, hg, Int.toNat_natCast] at this
        have e : (A.on k i).set k (A.get k + i + 1) = A.on k (i + 1) := by unfold Ck.on; rw [Ck.set_set]; congr 1; omega
        rw [e] at this; exact this)
      have HD := Lib.hid (fun (i : Nat) (w : World) => by have := has_any (A.on k (i + 1)) k (A.get k + (i + 1 : Nat)) w; rwa [(show Ck.has (A.on k (i + 1)) k (A.get k + (i + 1 : Nat)) = true from (Ck.has_just A k _ hkl (by omega)).1)] at this)
      have HC := Lib.hid (fun (i : Nat) (w : World) => by have := has_any (A.on k i) k (A.get k + (i + 1 : Nat)) w; rwa [(show Ck.has (A.on k i) k (A.get k + (i + 1 : Nat)) = false from by have := (Ck.has_just A k (A.get k + (i + 1 : Nat)) hkl (by omega)).2; rwa [show A.get k + ((i + 1 : Nat) : Int) - 1 = A.get k + i by omega] at this)] at this)
      have LE := Lib.hid (fun w => by have := le_any A (A.on k m) w; rwa [show Ck.le A (A.on k m) = true from Ck.le_next A k _ hkl (by omega)] at this)
      have CJ := Lib.hid (fun w => by have := join_any A (A.on k m) w; rwa [Ck.join_of_le (show Ck.le A (A.on k m) = true from Ck.le_next A k _ hkl (by omega))] at this)
      have G := Lib.hid (fun i => Ck.on_get A k i hkl)
      have HZ := Lib.hid (show A.on k 0 = A by unfold Ck.on; rw [show A.get k + ((0 : Nat) : Int) = A.get k by omega, Ck.set_get _ _ hkl])
      have HS := Lib.hid (fun x => Ck.cells_set A k x hkl)
      have HO := Lib.hid (show A.set k (A.get k + m) = A.on k m from rfl)
      generalize hg : A.get k = g at *
      have HG := Lib.hid hg; clear hg
      clear hA hW
      unfold Ck.val at *
      refine wp_named (fun W hW => ?_)
      have K0 : Hid (Blk W w.heap.size A.cells 23) := by rw [hW]; exact HK
      have B0 : Hid (Below w.heap.size w W) := by rw [hW]; exact HB
      clear hW HK HB
      have ⟨a0, a1, a2, a3, a4⟩ := K0.out.ck.cells
      go_wp2
      clear a0 a1 a2 a3 a4
      have K1 := Lib.hid (K0.out.alloc (.cells A.cells 23)); have C1 := Lib.hid (Blk.new W A.cells 23)
      have B1 := Lib.hid (B0.out.alloc B0.out.size (.cells A.cells 23))
      simp only [hk5, show ((5 : Nat) : Int) = 5 from rfl]
      go_loopw [11] (fun v wr => ChainRel A k m w W.heap.size v wr) (fun v _ => m - (intOf v).toNat)
      case atStart => exact ⟨0, by omega, rfl, by rw [HZ.out]; exact C1.out, K1.out, B1.out⟩
      case round =>
        have hCB : Hid (w.heap.size < W.heap.size) := Lib.hid K0.out.lt
        clear K1 C1 B1 K0 B0
        obtain ⟨i, hi, rfl, hC, hK, hBl⟩ := hrel
        have HK := Lib.hid hK; have HCC := Lib.hid hC; have HB := Lib.hid hBl
        clear hK hBl hC
        by_cases him : i < m
        · have him' : (i : Int) < m := by omega
          have dn : decide (i < m) = true := by simpa using him
          have CN1 := Lib.hid (fun w => CN.out i w (by omega))
          have HD1 := Lib.hid (fun w => HD.out i w)
          have HC1 := Lib.hid (fun w => HC.out i w)
          have G1 := Lib.hid (G.out (i + 1))
          generalize A.on k i = c at *
          generalize hd : A.on k (i + 1) = d at *
          have HDD := Lib.hid hd; clear hd
          refine wp_named (fun W1 hW1 => ?_)
          rw [← hW1] at HK HCC HB
          clear hW1
          have ⟨c0, c1, c2, c3, c4⟩ := HCC.out.ck.cells
          go_wp2_with fail
          with_reducible refine (CN1.out _).mono ?_
          rintro e w2 ⟨rfl, hb2⟩
          clear c0 c1 c2 c3 c4
          have u2 : Lex.Up W1 (w2.alloc (.cells #[.int .i64 d.c0, .int .i64 d.c1, .int .i64 d.c2, .int .i64 d.c3, .int .i64 d.c4] 23)) := hb2.trans ((Below.refl _ _).alloc hb2.size _)
          have K2 := Lib.hid (HK.out.up u2); have C2 := Lib.hid (HCC.out.up u2); have D2 := Lib.hid (Blk.new w2 #[.int .i64 d.c0, .int .i64 d.c1, .int .i64 d.c2, .int .i64 d.c3, .int .i64 d.c4] 23)
          have B2 := Lib.hid (HB.out.trans (u2.mono HB.out.size))
          have hCD : Hid (W.heap.size < w2.heap.size) := Lib.hid (Nat.lt_of_lt_of_le HCC.out.lt hb2.size)
          clear HK HCC HB u2 hb2
          go_wp2
          refine wp_named (fun W2 hW2 => ?_)
          rw [← hW2] at K2 C2 D2 B2
          clear hW2
          refine Lex.wp_region_lex (by kernel_rfl) (by kernel_rfl) (by rfl) ?_
          repeat (first | (refine Lex.lex_skip (by rfl) (by rfl) (by rfl) ?_; simp only [Act.put, List.setIfInBounds_toArray, List.set_cons_zero, List.set_cons_succ]) | (refine Lex.lex_pure (c := ?_) (by rfl) (by rfl) (fun w' hC => ?_) (by rfl) ?_; rotate_left 1; (have ⟨d0, d1, d2, d3, d4⟩ := (show CkAt _ w2.heap.size d from (D2.out.up hC).ck).cells; have dk := (show CkAt _ w2.heap.size d from (D2.out.up hC).ck).2 k hkl; rw [G1.out] at dk; go_simp; rfl); simp only [Act.put, List.setIfInBounds_toArray, List.set_cons_zero, List.set_cons_succ]))
          refine Lex.lex_callv (f := 12) (args := #[.agg #[.int .i64 d.c0, .int .i64 d.c1, .int .i64 d.c2, .int .i64 d.c3, .int .i64 d.c4], .int .i64 k, .int .i64 (g + (i + 1 : Nat))]) (.bool true) (by rfl) (by rfl) (fun w' => by go_simp) (fun w' hC => HD1.out w') (by rfl) ?_
          simp only [Act.put, List.setIfInBounds_toArray, List.set_cons_zero, List.set_cons_succ]
          repeat (first | (refine Lex.lex_skip (by rfl) (by rfl) (by rfl) ?_; simp only [Act.put, List.setIfInBounds_toArray, List.set_cons_zero, List.set_cons_succ]) | (refine Lex.lex_pure (c := ?_) (by rfl) (by rfl) (fun w' hC => ?_) (by rfl) ?_; rotate_left 1; (have ⟨c0, c1, c2, c3, c4⟩ := (C2.out.up hC).ck.cells; have dk := (show CkAt _ w2.heap.size d from (D2.out.up hC).ck).2 k hkl; rw [G1.out] at dk; go_simp; rfl); simp only [Act.put, List.setIfInBounds_toArray, List.set_cons_zero, List.set_cons_succ]))
          refine Lex.lex_callv (f := 12) (args := #[.agg #[.int .i64 c.c0, .int .i64 c.c1, .int .i64 c.c2, .int .i64 c.c3, .int .i64 c.c4], .int .i64 k, .int .i64 (g + (i + 1 : Nat))]) (.bool false) (by rfl) (by rfl) (fun w' => by go_simp) (fun w' hC => HC1.out w') (by rfl) ?_
          simp only [Act.put, List.setIfInBounds_toArray, List.set_cons_zero, List.set_cons_succ]
          repeat (first | (refine Lex.lex_skip (by rfl) (by rfl) (by rfl) ?_; simp only [Act.put, List.setIfInBounds_toArray, List.set_cons_zero, List.set_cons_succ]) | (refine Lex.lex_pure (c := ?_) (by rfl) (by rfl) (fun w' hC => ?_) (by rfl) ?_; rotate_left 1; (go_simp; rfl); simp only [Act.put, List.setIfInBounds_toArray, List.set_cons_zero, List.set_cons_succ]))
          refine Lex.lex_nil (fun W3 hC => ?_)
          simp only [Lex.fill]
          have K3 := Lib.hid (K2.out.up hC); have C3 := Lib.hid (C2.out.up hC); have D3 := Lib.hid (show Blk W3 w2.heap.size d.cells 23 from D2.out.up hC)
          have B3 := Lib.hid (B2.out.trans (hC.mono B2.out.size))
          clear K2 C2 D2 B2 hC
          have ⟨d0, d1, d2, d3, d4⟩ := D3.out.ck.cells
          have ⟨c0, c1, c2, c3, c4⟩ := C3.out.ck.cells
          have f0 := C3.out.frozen 0
          have f1 := C3.out.frozen 1
          have f2 := C3.out.frozen 2
          have f3 := C3.out.frozen 3
          have f4 := C3.out.frozen 4
          go_wp2
          go_roundw
          case rel => exact ⟨i + 1, by omega, by go_num, by
            rw [HDD.out]
            exact ((((C3.out.set 0 (.int .i64 d.c0)).set 1 (.int .i64 d.c1)).set 2 (.int .i64 d.c2)).set 3 (.int .i64 d.c3)).set 4 (.int .i64 d.c4), by
            have hne := hCB.out
            exact ((((K3.out.other (by simp; omega) _).other (by simp; omega) _).other (by simp; omega) _).other (by simp; omega) _).other (by simp; omega) _, by
            have hne := hCB.out
            exact ((((B3.out.setCell (by simp; omega) _).setCell (by simp; omega) _).setCell (by simp; omega) _).setCell (by simp; omega) _).setCell (by simp; omega) _⟩
          case measure => simp [intOf]; omega
        · obtain rfl : i = m := by omega
          have hx := HS.out (g + i)
          rw [HO.out] at hx
          generalize A.on k i = c at *
          have hset : ([.int .i64 A.c0, .int .i64 A.c1, .int .i64 A.c2, .int .i64 A.c3, .int .i64 A.c4] : List Value).set k (.int .i64 (g + i)) = ([.int .i64 c.c0, .int .i64 c.c1, .int .i64 c.c2, .int .i64 c.c3, .int .i64 c.c4] : List Value) := by unfold Ck.cells at hx; simpa using hx
          have HSET := Lib.hid hset
          clear hx hset CN HD HC HZ HS HO G
          have dn : decide (i < i) = false := by simp
          have i0 : (0 : Int) ≤ i := by omega
          have i1 : (i : Int) < 64 := by omega
          refine wp_named (fun W1 hW1 => ?_)
          rw [← hW1] at HK HCC HB
          clear hW1
          have ⟨a0, a1, a2, a3, a4⟩ := HK.out.ck.cells
          have ak := HK.out.ck.2 k hkl
          rw [HG.out] at ak
          have hwl := HK.out.lt
          have hf := (Blk.new W1 #[.int .i64 A.c0, .int .i64 A.c1, .int .i64 A.c2, .int .i64 A.c3, .int .i64 A.c4] 23).frozen k
          have hc := (show CkAt _ W1.heap.size A from (Blk.new W1 A.cells 23).ck).2 k hkl
          unfold Ck.cells at hc
          have hset := HSET.out
          go_wp2
          clear a0 a1 a2 a3 a4 ak hf hc hset
          have K4 := Lib.hid (HK.out.alloc (.cells #[.int .i64 c.c0, .int .i64 c.c1, .int .i64 c.c2, .int .i64 c.c3, .int .i64 c.c4] 23)); have C4 := Lib.hid (HCC.out.alloc (.cells #[.int .i64 c.c0, .int .i64 c.c1, .int .i64 c.c2, .int .i64 c.c3, .int .i64 c.c4] 23)); have N4 := Lib.hid (Blk.new W1 #[.int .i64 c.c0, .int .i64 c.c1, .int .i64 c.c2, .int .i64 c.c3, .int .i64 c.c4] 23)
          have B4 := Lib.hid (HB.out.alloc HB.out.size (.cells #[.int .i64 c.c0, .int .i64 c.c1, .int .i64 c.c2, .int .i64 c.c3, .int .i64 c.c4] 23))
          clear HK HCC HB
          refine wp_named (fun W4 hW4 => ?_)
          rw [← hW4] at K4 C4 N4 B4
          clear hW4
          have q : ∀ w, _ := fun w => eq_same c w
          refine Lex.wp_region_lex (by kernel_rfl) (by kernel_rfl) (by rfl) ?_
          repeat (first | (refine Lex.lex_skip (by rfl) (by rfl) (by rfl) ?_; simp only [Act.put, List.setIfInBounds_toArray, List.set_cons_zero, List.set_cons_succ]) | (refine Lex.lex_pure (c := ?_) (by rfl) (by rfl) (fun w' hC => ?_) (by rfl) ?_; rotate_left 1; (have ⟨a0, a1, a2, a3, a4⟩ := (K4.out.up hC).ck.cells; have ⟨c0, c1, c2, c3, c4⟩ := (C4.out.up hC).ck.cells; have ⟨b0, b1, b2, b3, b4⟩ := (N4.out.up hC).ck.cells; go_simp; rfl); simp only [Act.put, List.setIfInBounds_toArray, List.set_cons_zero, List.set_cons_succ]))
          refine Lex.lex_callv (f := 14) (args := #[.agg #[.int .i64 A.c0, .int .i64 A.c1, .int .i64 A.c2, .int .i64 A.c3, .int .i64 A.c4], .agg #[.int .i64 c.c0, .int .i64 c.c1, .int .i64 c.c2, .int .i64 c.c3, .int .i64 c.c4]]) (.agg #[.int .i64 c.c0, .int .i64 c.c1, .int .i64 c.c2, .int .i64 c.c3, .int .i64 c.c4]) (by rfl) (by rfl) (fun w' => by go_simp) (fun w' hC => CJ.out w') (by rfl) ?_
          simp only [Act.put, List.setIfInBounds_toArray, List.set_cons_zero, List.set_cons_succ]
          repeat (first | (refine Lex.lex_skip (by rfl) (by rfl) (by rfl) ?_; simp only [Act.put, List.setIfInBounds_toArray, List.set_cons_zero, List.set_cons_succ]) | (refine Lex.lex_pure (c := ?_) (by rfl) (by rfl) (fun w' hC => ?_) (by rfl) ?_; rotate_left 1; (have ⟨a0, a1, a2, a3, a4⟩ := (K4.out.up hC).ck.cells; have ⟨c0, c1, c2, c3, c4⟩ := (C4.out.up hC).ck.cells; go_simp; rfl); simp only [Act.put, List.setIfInBounds_toArray, List.set_cons_zero, List.set_cons_succ]))
          refine Lex.lex_callv (f := 16) (args := #[.agg #[.int .i64 A.c0, .int .i64 A.c1, .int .i64 A.c2, .int .i64 A.c3, .int .i64 A.c4], .agg #[.int .i64 c.c0, .int .i64 c.c1, .int .i64 c.c2, .int .i64 c.c3, .int .i64 c.c4]]) (.bool true) (by rfl) (by rfl) (fun w' => by go_simp) (fun w' hC => LE.out w') (by rfl) ?_
          simp only [Act.put, List.setIfInBounds_toArray, List.set_cons_zero, List.set_cons_succ]
          repeat (first | (refine Lex.lex_skip (by rfl) (by rfl) (by rfl) ?_; simp only [Act.put, List.setIfInBounds_toArray, List.set_cons_zero, List.set_cons_succ]) | (refine Lex.lex_pure (c := ?_) (by rfl) (by rfl) (fun w' hC => ?_) (by rfl) ?_; rotate_left 1; (go_simp; rfl); simp only [Act.put, List.setIfInBounds_toArray, List.set_cons_zero, List.set_cons_succ]))
          refine Lex.lex_nil (fun W5 hC => ?_)
          simp only [Lex.fill]
          have hB := Lib.hid (B4.out.trans (hC.mono B4.out.size))
          clear hC
          go_wp2
          go_ret
          exact ⟨rfl, hB.out⟩
end Go.Proofs.Ytieldmgfhdhcdaa
