/-
  The walk of ClockNext.
-/
import Derived.Test.YtieldmgfhdhcdaaLaws3A
namespace Go.Proofs.Ytieldmgfhdhcdaa
open Go.RowKit
attribute [local go_sem ↓] Go.wp_at_zero Go.wp_at_succ

/-- Block b holds just these cells, none of them frozen. -/
def Blk (w : World) (b : Nat) (cs : Array Value) (t : TypeId) : Prop := w.heap[b]? = some (.cells cs t)
namespace Blk
variable {w : World} {b : Nat} {cs : Array Value} {t : TypeId}
theorem lt (h : Blk w b cs t) : b < w.heap.size := by
  rcases Nat.lt_or_ge b w.heap.size with k | k
  · exact k
  · unfold Blk at h; rw [Array.getElem?_eq_none k] at h; cases h
theorem cell (h : Blk w b cs t) {j : Nat} {v : Value} (hj : cs[j]? = some v) : w.cell? ⟨b, j, none⟩ = some v := by
  unfold Blk at h; simp [World.cell?, h, hj]
theorem frozen (h : Blk w b cs t) (j : Nat) : w.frozen? ⟨b, j, none⟩ = false := by
  unfold Blk at h; simp [World.frozen?, h]
theorem up {w' : World} (h : Blk w b cs t) (hu : Lex.Up w w') : Blk w' b cs t := by
  have := hu.block b h.lt
  unfold Blk at *; rw [this]; exact h
theorem new (w : World) (cs : Array Value) (t : TypeId) : Blk (w.alloc (.cells cs t)) w.heap.size cs t := by
  unfold Blk; exact heap_alloc_new _ _
theorem alloc (h : Blk w b cs t) (o : Obj) : Blk (w.alloc o) b cs t := h.up ((Below.refl _ _).alloc (Nat.le_refl _) o)
theorem set (h : Blk w b cs t) (k : Nat) (v : Value) : Blk (w.setCell ⟨b, k, none⟩ v) b (cs.setIfInBounds k v) t := by
  unfold Blk at *
  have hb : b < w.heap.size := Blk.lt h
  simp [World.setCell, Array.getElem?_modify, h]
theorem other (h : Blk w b cs t) {p : Addr} (hp : b ≠ p.block) (v : Value) : Blk (w.setCell p v) b cs t := by
  unfold Blk at *
  rw [Below.heap_setCell w p v b hp]; exact h
theorem ck {c : Ck} (h : Blk w b c.cells t) : CkAt w b c := ⟨h.lt, fun j hj => h.cell (by
  unfold Ck.cells
  match j, hj with
  | 0, _ | 1, _ | 2, _ | 3, _ | 4, _ => rfl)⟩
end Blk
theorem Ck.cells_set (c : Ck) (k : Nat) (x : Int) (h : k < 5) : c.cells.setIfInBounds k (.int .i64 x) = (c.set k x).cells := by
  unfold Ck.cells
  match k, h with
  | 0, _ | 1, _ | 2, _ | 3, _ | 4, _ => simp [Ck.set]

/-- The first k numbers taken by M. -/
def Ck.mask (a : Ck) (M : Int) (k : Nat) : Ck := ⟨if 0 < k then a.c0 % M else a.c0, if 1 < k then a.c1 % M else a.c1, if 2 < k then a.c2 % M else a.c2, if 3 < k then a.c3 % M else a.c3, if 4 < k then a.c4 % M else a.c4⟩
theorem Ck.mask_get (a : Ck) (M : Int) (k : Nat) (h : k < 5) : (a.mask M k).get k = a.get k := by
  match k, h with
  | 0, _ | 1, _ | 2, _ | 3, _ | 4, _ => rfl
theorem Ck.mask_set (a : Ck) (M : Int) (k : Nat) (h : k < 5) : (a.mask M k).set k (a.get k % M) = a.mask M (k + 1) := by
  match k, h with
  | 0, _ | 1, _ | 2, _ | 3, _ | 4, _ => simp [Ck.set, Ck.mask, Ck.get]
theorem Ck.mask_zero (a : Ck) (M : Int) : a.mask M 0 = a := by
  cases a; simp [Ck.mask]
theorem Ck.mask_all (a : Ck) (M : Int) : a.mask M 5 = ⟨a.c0 % M, a.c1 % M, a.c2 % M, a.c3 % M, a.c4 % M⟩ := by simp [Ck.mask]
def MaskRel (a : Ck) (M : Int) (B : Nat) (more : World → Prop) (v : Value) (w' : World) : Prop :=
  ∃ k : Nat, k ≤ 5 ∧ v = .int .i64 k ∧ Blk w' B (a.mask M k).cells 23 ∧ more w'
theorem Ck.get_set (c : Ck) (k j : Nat) (x : Int) (h : k < 5) : (c.set k x).get j = if j = k then x else c.get j := by
  match k, h with
  | 0, _ | 1, _ | 2, _ | 3, _ | 4, _ =>
    match j with
    | 0 | 1 | 2 | 3 | 4 => simp [Ck.set, Ck.get]
    | j + 5 => simp [Ck.get]

/-- With one more: just that one more was seen. -/
theorem Ck.has_next (A : Ck) (k : Nat) (R N : Int) (hk : k < 5) (h0 : 0 ≤ A.get k) : Ck.has (A.set k (A.get k + 1)) R N = (Ck.has A R N || (decide (R = k) && decide (N = A.get k + 1))) := by
  unfold Ck.has Ck.rep
  rw [Ck.get_set _ _ _ _ hk, Bool.eq_iff_iff]
  simp only [Bool.and_eq_true, Bool.or_eq_true, decide_eq_true_eq]
  by_cases e : R.toNat = k
  · rw [if_pos e, e]; omega
  · rw [if_neg e]; omega
theorem Ck.le_next (A : Ck) (k : Nat) (x : Int) (hk : k < 5) (h : A.get k ≤ x) : Ck.le A (A.set k x) = true := by
  rw [Ck.le_iff]
  intro j hj
  rw [Ck.get_set _ _ _ _ hk]
  split
  · rename_i e; rw [e]; exact h
  · omega
theorem Ck.le_next_not (A : Ck) (k : Nat) (x : Int) (hk : k < 5) (h : A.get k < x) : Ck.le (A.set k x) A = false := by
  refine Ck.le_false hk ?_
  rw [Ck.get_set _ _ _ _ hk, if_pos rfl]; omega
theorem Ck.set_wf {c : Ck} (h : c.Wf) (k : Nat) {x : Int} (hx : Ck.In x) : (c.set k x).Wf := by
  obtain ⟨h0, h1, h2, h3, h4⟩ := h
  unfold Ck.Wf Ck.set
  refine ⟨?_, ?_, ?_, ?_, ?_⟩ <;> simp only [] <;> split <;> assumption

set_option maxRecDepth 100000 in
set_option maxHeartbeats 4000000 in
theorem law_next (a : Ck) (r : Nat) (R N : Int) (w : World) (hr : r < 256) :
    Calls Try.prog 6 #[a.val, .int .u8 r, .agg #[.int .i64 R, .int .i64 N]] w fun e w' => e = .returned (.bool true) ∧ Below w.heap.size w w' := by
  have C0 := Lib.hid (fun w => shown_any w)
  have r0 : (0 : Int) ≤ r := by omega
  have r1 : (r : Int) ≤ 255 := by omega
  obtain ⟨B, hB⟩ : ∃ B, B = w.heap.size := ⟨_, rfl⟩
  unfold Ck.val
  go_enter Try.func6, Try.ntmps6
  go_wp2_with fail
  refine (C0.out _).mono ?_
  rintro e w1 ⟨rfl, hb1⟩
  have K1 := ((Blk.new w #[.int .i64 a.c0, .int .i64 a.c1, .int .i64 a.c2, .int .i64 a.c3, .int .i64 a.c4] 23).alloc (.cells #[.int .i64 R, .int .i64 N] 35)).up hb1
  have M1 := (Blk.new (w.alloc (.cells #[.int .i64 a.c0, .int .i64 a.c1, .int .i64 a.c2, .int .i64 a.c3, .int .i64 a.c4] 23)) #[.int .i64 R, .int .i64 N] 35).up hb1
  simp only [World.size_alloc] at M1
  have B1 := (((Below.refl w.heap.size w).alloc (Nat.le_refl _) (.cells #[.int .i64 a.c0, .int .i64 a.c1, .int .i64 a.c2, .int .i64 a.c3, .int .i64 a.c4] 23)).alloc (by simp) (.cells #[.int .i64 R, .int .i64 N] 35)).trans (hb1.mono (by simp; omega))
  have HM := Lib.hid M1; have HK := Lib.hid K1; have HB := Lib.hid B1
  clear M1 K1 B1 hb1 hB
  go_wp2
  go_loopw [8] (fun v wr => MaskRel a 1048576 w.heap.size (fun w' => Blk w' (w.heap.size + 1) #[.int .i64 R, .int .i64 N] 35 ∧ Below w.heap.size w w') v wr) (fun v _ => 5 - (intOf v).toNat)
  case atStart => exact ⟨0, by omega, rfl, by rw [Ck.mask_zero]; exact HK.out, HM.out, HB.out⟩
  case round =>
    clear HM HK HB
    obtain ⟨k, hk, rfl, hK, hM, hBl⟩ := hrel
    have HK := Lib.hid hK; have HM := Lib.hid hM; have HB := Lib.hid hBl
    clear hK hM hBl
    by_cases h5 : k < 5
    · have h5' : (k : Int) < 5 := by omega
      have hc := HK.out.ck.2 k h5
      rw [Ck.mask_get _ _ _ h5] at hc
      have hf := HK.out.frozen k
      have hm := i64_andM (a.get k)
      go_wp2
      go_roundw
      case rel => exact ⟨k + 1, by omega, by go_num, by
        have := HK.out.set k (.int .i64 (a.get k % 1048576))
        rwa [Ck.cells_set _ _ _ h5, Ck.mask_set _ _ _ h5] at this, HM.out.other (by simp) _, HB.out.setCell (by simp) _⟩
      case measure => simp [intOf]; omega
    · obtain rfl : k = 5 := by omega
      have hA : ∀ j, j < 5 → 0 ≤ (a.mask 1048576 5).get j ∧ (a.mask 1048576 5).get j < 1048576 := fun j hj => by
        rw [Ck.mask_all]
        match j, hj with
        | 0, _ | 1, _ | 2, _ | 3, _ | 4, _ => simp only [Ck.get]; omega
      have hW : (a.mask 1048576 5).Wf := by
        rw [Ck.mask_all]; unfold Ck.Wf Ck.In; simp only []; omega
      generalize a.mask 1048576 5 = A at *
      have hk5 : (r : Int) % 5 = ((r % 5 : Nat) : Int) := by omega
      have hkl : r % 5 < 5 := Nat.mod_lt _ (by omega)
      generalize r % 5 = k at *
      have hk5' : (k : Int) < 5 := by omega
      obtain ⟨hA0, hA1⟩ := hA k hkl
      have CN := Lib.hid (fun w => by have := next_any A k w hW; unfold NextVal at this; rwa [(next_ok (a := A) (r := (k : Int)) (by omega) (by simpa using hA1)).1, (next_ok (a := A) (r := (k : Int)) (by omega) (by simpa using hA1)).2, Int.toNat_natCast] at this)
      have CF := Lib.hid (fun w => by have := next_any (A.set k 1048576) k w (Ck.set_wf hW k ⟨by omega, by omega⟩); unfold NextVal at this; rwa [(next_spent (a := A.set k 1048576) (r := (k : Int)) (by omega) (by rw [Int.toNat_natCast, Ck.get_set _ _ _ _ hkl]; simp)).1, (next_spent (a := A.set k 1048576) (r := (k : Int)) (by omega) (by rw [Int.toNat_natCast, Ck.get_set _ _ _ _ hkl]; simp)).2] at this)
      have HA := Lib.hid (fun w => has_any A R N w)
      have HN := Lib.hid (fun w => by have := has_any (A.set k (A.get k + 1)) R N w; rwa [Ck.has_next A k R N hkl hA0] at this)
      have L1 := Lib.hid (fun w => by have := le_any A (A.set k (A.get k + 1)) w; rwa [Ck.le_next A k _ hkl (by omega)] at this)
      have L2 := Lib.hid (fun w => by have := le_any (A.set k (A.get k + 1)) A w; rwa [Ck.le_next_not A k _ hkl (by omega)] at this)
      have gb := Ck.get_set A k k (A.get k + 1) hkl
      rw [if_pos rfl] at gb
      have hcs := Ck.cells_set A k 1048576 hkl
      have GB := Lib.hid gb; have HCS := Lib.hid hcs
      generalize A.set k (A.get k + 1) = b at *
      generalize A.set k 1048576 = f at *
      have qz : ∀ w, _ := fun w => eq_same Ck.zero w
      unfold Ck.zero at qz
      clear gb hcs hA hW
      generalize hg : A.get k = g at *
      have HG := Lib.hid hg; clear hg
      generalize Ck.has A R N = h at *
      have HNN := Lib.hid (fun hR : R = (k : Int) => Lib.hid (fun w => by have := HN.out w; rwa [decide_eq_true hR, Bool.true_and] at this))
      have HNO := Lib.hid (fun hR : ¬ R = (k : Int) => Lib.hid (fun w => by have := HN.out w; rwa [decide_eq_false hR, Bool.false_and, Bool.or_false] at this))
      clear HN
      unfold Ck.val Ck.zero at *
      refine wp_named (fun W hW => ?_)
      have K0 : Hid (Blk W w.heap.size A.cells 23) := by rw [hW]; exact HK
      have M0 : Hid (Blk W (w.heap.size + 1) #[.int .i64 R, .int .i64 N] 35) := by rw [hW]; exact HM
      have B0 : Hid (Below w.heap.size w W) := by rw [hW]; exact HB
      clear hW HK HM HB
      have ⟨a0, a1, a2, a3, a4⟩ := K0.out.ck.cells
      go_wp2_with fail
      with_reducible refine (CN.out _).mono ?_
      rintro e w2 ⟨rfl, hb2⟩
      clear a0 a1 a2 a3 a4
      have u2 : Lex.Up W (w2.alloc (.cells #[.int .i64 b.c0, .int .i64 b.c1, .int .i64 b.c2, .int .i64 b.c3, .int .i64 b.c4] 23)) := hb2.trans ((Below.refl _ _).alloc hb2.size _)
      have K2 := Lib.hid (K0.out.up u2); have M2 := Lib.hid (M0.out.up u2); have N2 := Lib.hid (Blk.new w2 #[.int .i64 b.c0, .int .i64 b.c1, .int .i64 b.c2, .int .i64 b.c3, .int .i64 b.c4] 23)
      have B2 := Lib.hid (B0.out.trans (u2.mono B0.out.size))
      have hn0 : w.heap.size + 1 < w2.heap.size := Nat.lt_of_lt_of_le M0.out.lt hb2.size
      clear K0 M0 B0 u2 hb2
      go_wp2
      refine wp_named (fun W2 hW2 => ?_)
      rw [← hW2] at K2 M2 N2 B2
      clear hW2
      by_cases hR : R = (k : Int)
      · have HN := HNN.out hR
        subst hR
        clear HNN HNO
        have hbe : decide (N = g + 1) = (N == g + 1) := rfl
        rw [hbe] at HN
        clear hbe
        have m0 := M2.out.cell (j := 0) rfl
        have m1 := M2.out.cell (j := 1) rfl
        have n0 := (show CkAt W2 w2.heap.size b from N2.out.ck).2 k hkl
        rw [GB.out] at n0
        go_quiet (fail)
        clear m0 m1 n0
        generalize (N == g + 1) = fr at *
        cases h
        · rw [Bool.false_or] at HN
          go_wp2
          refine wp_named (fun W3 hW3 => ?_)
          have K3 : Hid (Blk W3 w.heap.size A.cells 23) := by rw [hW3]; exact K2
          have M3 : Hid (Blk W3 (w.heap.size + 1) #[.int .i64 (k : Int), .int .i64 N] 35) := by rw [hW3]; exact M2
          have N3 : Hid (Blk W3 w2.heap.size b.cells 23) := by rw [hW3]; exact N2
          have B3 : Hid (Below w.heap.size w W3) := by rw [hW3]; exact Lib.hid (below_dN B2.out _)
          clear K2 M2 N2 B2 hW3
          refine Lex.wp_region_lex (by kernel_rfl) (by kernel_rfl) (by rfl) ?_
          repeat (first | (refine Lex.lex_skip (by rfl) (by rfl) (by rfl) ?_; simp only [Act.put, List.setIfInBounds_toArray, List.set_cons_zero, List.set_cons_succ]) | (refine Lex.lex_pure (c := ?_) (by rfl) (by rfl) (fun w' hC => ?_) (by rfl) ?_; rotate_left 1; (have ⟨b0, b1, b2, b3, b4⟩ := (N3.out.up hC).ck.cells; have m0 := (M3.out.up hC).cell (j := 0) rfl; have m1 := (M3.out.up hC).cell (j := 1) rfl; go_simp; rfl); simp only [Act.put, List.setIfInBounds_toArray, List.set_cons_zero, List.set_cons_succ]))
          refine Lex.lex_callv (f := 12) (args := #[.agg #[.int .i64 b.c0, .int .i64 b.c1, .int .i64 b.c2, .int .i64 b.c3, .int .i64 b.c4], .int .i64 (k : Int), .int .i64 N]) (.bool fr) (by rfl) (by rfl) (fun w' => by go_simp) (fun w' hC => HN.out w') (by rfl) ?_
          simp only [Act.put, List.setIfInBounds_toArray, List.set_cons_zero, List.set_cons_succ]
          repeat (first | (refine Lex.lex_skip (by rfl) (by rfl) (by rfl) ?_; simp only [Act.put, List.setIfInBounds_toArray, List.set_cons_zero, List.set_cons_succ]) | (refine Lex.lex_pure (c := ?_) (by rfl) (by rfl) (fun w' hC => ?_) (by rfl) ?_; rotate_left 1; (have ⟨a0, a1, a2, a3, a4⟩ := (K3.out.up hC).ck.cells; have m0 := (M3.out.up hC).cell (j := 0) rfl; have m1 := (M3.out.up hC).cell (j := 1) rfl; go_simp; rfl); simp only [Act.put, List.setIfInBounds_toArray, List.set_cons_zero, List.set_cons_succ]))
          refine Lex.lex_callv (f := 12) (args := #[.agg #[.int .i64 A.c0, .int .i64 A.c1, .int .i64 A.c2, .int .i64 A.c3, .int .i64 A.c4], .int .i64 (k : Int), .int .i64 N]) (.bool false) (by rfl) (by rfl) (fun w' => by go_simp) (fun w' hC => HA.out w') (by rfl) ?_
          simp only [Act.put, List.setIfInBounds_toArray, List.set_cons_zero, List.set_cons_succ]
          repeat (first | (refine Lex.lex_skip (by rfl) (by rfl) (by rfl) ?_; simp only [Act.put, List.setIfInBounds_toArray, List.set_cons_zero, List.set_cons_succ]) | (refine Lex.lex_pure (c := ?_) (by rfl) (by rfl) (fun w' hC => ?_) (by rfl) ?_; rotate_left 1; (go_simp; rfl); simp only [Act.put, List.setIfInBounds_toArray, List.set_cons_zero, List.set_cons_succ]))
          refine Lex.lex_nil (fun W4 hC => ?_)
          simp only [Lex.fill]
          have K4 := Lib.hid (K3.out.up hC); have N4 := Lib.hid (N3.out.up hC)
          have B4 := Lib.hid (B3.out.trans (hC.mono B3.out.size))
          have hn4 : w2.heap.size < W4.heap.size := N4.out.lt
          have hn5 : w.heap.size < W4.heap.size := K4.out.lt
          clear K3 M3 N3 B3 hC
          have ⟨a0, a1, a2, a3, a4⟩ := K4.out.ck.cells
          have hf := (Blk.new W4 #[.int .i64 A.c0, .int .i64 A.c1, .int .i64 A.c2, .int .i64 A.c3, .int .i64 A.c4] 23).frozen k
          have hc := (show CkAt _ W4.heap.size A from (Blk.new W4 A.cells 23).ck).2 k hkl
          unfold Ck.cells at hc
          have hset : ([.int .i64 A.c0, .int .i64 A.c1, .int .i64 A.c2, .int .i64 A.c3, .int .i64 A.c4] : List Value).set k (.int .i64 1048576) = ([.int .i64 f.c0, .int .i64 f.c1, .int .i64 f.c2, .int .i64 f.c3, .int .i64 f.c4] : List Value) := by have := HCS.out; unfold Ck.cells at this; simpa using this
          go_wp2_with fail
          with_reducible refine (CF.out _).mono ?_
          rintro e w5 ⟨rfl, hb5⟩
          clear a0 a1 a2 a3 a4 hf hc hset
          have u5 : Lex.Up W4 (w5.alloc (.cells #[.int .i64 0, .int .i64 0, .int .i64 0, .int .i64 0, .int .i64 0] 23)) := (((Below.refl _ _).alloc (Nat.le_refl _) _).trans (hb5.mono (by simp))).alloc (Nat.le_trans (by simp) hb5.size) _
          have K5 := Lib.hid (K4.out.up u5); have N5 := Lib.hid (N4.out.up u5); have Z5 := Lib.hid (Blk.new w5 #[.int .i64 0, .int .i64 0, .int .i64 0, .int .i64 0, .int .i64 0] 23)
          have B5 := Lib.hid (B4.out.trans (u5.mono B4.out.size))
          clear K4 N4 B4 u5 hb5
          go_wp2
          refine wp_named (fun W6 hW6 => ?_)
          rw [← hW6] at K5 N5 Z5 B5
          clear hW6
          have X1 : Hid (IntKind.i64.wrap (g + 1) = g + 1) := Lib.hid (IntWalk.i64_in _ ⟨by omega, by omega⟩)
          refine Lex.wp_region_lex (by kernel_rfl) (by kernel_rfl) (by rfl) ?_
          repeat (first | (refine Lex.lex_skip (by rfl) (by rfl) (by rfl) ?_; simp only [Act.put, List.setIfInBounds_toArray, List.set_cons_zero, List.set_cons_succ]) | (refine Lex.lex_pure (c := ?_) (by rfl) (by rfl) (fun w' hC => ?_) (by rfl) ?_; rotate_left 1; (have ⟨a0, a1, a2, a3, a4⟩ := (K5.out.up hC).ck.cells; have ⟨b0, b1, b2, b3, b4⟩ := (N5.out.up hC).ck.cells; go_simp; rfl); simp only [Act.put, List.setIfInBounds_toArray, List.set_cons_zero, List.set_cons_succ]))
          refine Lex.lex_callv (f := 16) (args := #[.agg #[.int .i64 A.c0, .int .i64 A.c1, .int .i64 A.c2, .int .i64 A.c3, .int .i64 A.c4], .agg #[.int .i64 b.c0, .int .i64 b.c1, .int .i64 b.c2, .int .i64 b.c3, .int .i64 b.c4]]) (.bool true) (by rfl) (by rfl) (fun w' => by go_simp) (fun w' hC => L1.out w') (by rfl) ?_
          simp only [Act.put, List.setIfInBounds_toArray, List.set_cons_zero, List.set_cons_succ]
          repeat (first | (refine Lex.lex_skip (by rfl) (by rfl) (by rfl) ?_; simp only [Act.put, List.setIfInBounds_toArray, List.set_cons_zero, List.set_cons_succ]) | (refine Lex.lex_pure (c := ?_) (by rfl) (by rfl) (fun w' hC => ?_) (by rfl) ?_; rotate_left 1; (have ⟨a0, a1, a2, a3, a4⟩ := (K5.out.up hC).ck.cells; have ⟨b0, b1, b2, b3, b4⟩ := (N5.out.up hC).ck.cells; go_simp; rfl); simp only [Act.put, List.setIfInBounds_toArray, List.set_cons_zero, List.set_cons_succ]))
          refine Lex.lex_callv (f := 16) (args := #[.agg #[.int .i64 b.c0, .int .i64 b.c1, .int .i64 b.c2, .int .i64 b.c3, .int .i64 b.c4], .agg #[.int .i64 A.c0, .int .i64 A.c1, .int .i64 A.c2, .int .i64 A.c3, .int .i64 A.c4]]) (.bool false) (by rfl) (by rfl) (fun w' => by go_simp) (fun w' hC => L2.out w') (by rfl) ?_
          simp only [Act.put, List.setIfInBounds_toArray, List.set_cons_zero, List.set_cons_succ]
          repeat (first | (refine Lex.lex_skip (by rfl) (by rfl) (by rfl) ?_; simp only [Act.put, List.setIfInBounds_toArray, List.set_cons_zero, List.set_cons_succ]) | (refine Lex.lex_pure (c := ?_) (by rfl) (by rfl) (fun w' hC => ?_) (by rfl) ?_; rotate_left 1; (have ak := (K5.out.up hC).ck.2 k hkl; rw [HG.out] at ak; have bk := (N5.out.up hC).ck.2 k hkl; rw [GB.out] at bk; have z0 := (Z5.out.up hC).cell (j := 0) rfl; have z1 := (Z5.out.up hC).cell (j := 1) rfl; have z2 := (Z5.out.up hC).cell (j := 2) rfl; have z3 := (Z5.out.up hC).cell (j := 3) rfl; have z4 := (Z5.out.up hC).cell (j := 4) rfl; have hx := X1.out; go_simp; rfl); simp only [Act.put, List.setIfInBounds_toArray, List.set_cons_zero, List.set_cons_succ]))
          refine Lex.lex_nil (fun W7 hC => ?_)
          simp only [Lex.fill]
          have hB := Lib.hid (B5.out.trans (hC.mono B5.out.size))
          clear hC
          go_wp2
          go_ret
          exact ⟨rfl, hB.out⟩
        · rw [Bool.true_or] at HN
          go_wp2
          refine wp_named (fun W3 hW3 => ?_)
          have K3 : Hid (Blk W3 w.heap.size A.cells 23) := by rw [hW3]; exact K2
          have M3 : Hid (Blk W3 (w.heap.size + 1) #[.int .i64 (k : Int), .int .i64 N] 35) := by rw [hW3]; exact M2
          have N3 : Hid (Blk W3 w2.heap.size b.cells 23) := by rw [hW3]; exact N2
          have B3 : Hid (Below w.heap.size w W3) := by rw [hW3]; exact Lib.hid (below_dN B2.out _)
          clear K2 M2 N2 B2 hW3
          refine Lex.wp_region_lex (by kernel_rfl) (by kernel_rfl) (by rfl) ?_
          repeat (first | (refine Lex.lex_skip (by rfl) (by rfl) (by rfl) ?_; simp only [Act.put, List.setIfInBounds_toArray, List.set_cons_zero, List.set_cons_succ]) | (refine Lex.lex_pure (c := ?_) (by rfl) (by rfl) (fun w' hC => ?_) (by rfl) ?_; rotate_left 1; (have ⟨b0, b1, b2, b3, b4⟩ := (N3.out.up hC).ck.cells; have m0 := (M3.out.up hC).cell (j := 0) rfl; have m1 := (M3.out.up hC).cell (j := 1) rfl; go_simp; rfl); simp only [Act.put, List.setIfInBounds_toArray, List.set_cons_zero, List.set_cons_succ]))
          refine Lex.lex_callv (f := 12) (args := #[.agg #[.int .i64 b.c0, .int .i64 b.c1, .int .i64 b.c2, .int .i64 b.c3, .int .i64 b.c4], .int .i64 (k : Int), .int .i64 N]) (.bool true) (by rfl) (by rfl) (fun w' => by go_simp) (fun w' hC => HN.out w') (by rfl) ?_
          simp only [Act.put, List.setIfInBounds_toArray, List.set_cons_zero, List.set_cons_succ]
          repeat (first | (refine Lex.lex_skip (by rfl) (by rfl) (by rfl) ?_; simp only [Act.put, List.setIfInBounds_toArray, List.set_cons_zero, List.set_cons_succ]) | (refine Lex.lex_pure (c := ?_) (by rfl) (by rfl) (fun w' hC => ?_) (by rfl) ?_; rotate_left 1; (have ⟨a0, a1, a2, a3, a4⟩ := (K3.out.up hC).ck.cells; have m0 := (M3.out.up hC).cell (j := 0) rfl; have m1 := (M3.out.up hC).cell (j := 1) rfl; go_simp; rfl); simp only [Act.put, List.setIfInBounds_toArray, List.set_cons_zero, List.set_cons_succ]))
          refine Lex.lex_callv (f := 12) (args := #[.agg #[.int .i64 A.c0, .int .i64 A.c1, .int .i64 A.c2, .int .i64 A.c3, .int .i64 A.c4], .int .i64 (k : Int), .int .i64 N]) (.bool true) (by rfl) (by rfl) (fun w' => by go_simp) (fun w' hC => HA.out w') (by rfl) ?_
          simp only [Act.put, List.setIfInBounds_toArray, List.set_cons_zero, List.set_cons_succ]
          repeat (first | (refine Lex.lex_skip (by rfl) (by rfl) (by rfl) ?_; simp only [Act.put, List.setIfInBounds_toArray, List.set_cons_zero, List.set_cons_succ]) | (refine Lex.lex_pure (c := ?_) (by rfl) (by rfl) (fun w' hC => ?_) (by rfl) ?_; rotate_left 1; (go_simp; rfl); simp only [Act.put, List.setIfInBounds_toArray, List.set_cons_zero, List.set_cons_succ]))
          refine Lex.lex_nil (fun W4 hC => ?_)
          simp only [Lex.fill]
          have K4 := Lib.hid (K3.out.up hC); have N4 := Lib.hid (N3.out.up hC)
          have B4 := Lib.hid (B3.out.trans (hC.mono B3.out.size))
          have hn4 : w2.heap.size < W4.heap.size := N4.out.lt
          have hn5 : w.heap.size < W4.heap.size := K4.out.lt
          clear K3 M3 N3 B3 hC
          have ⟨a0, a1, a2, a3, a4⟩ := K4.out.ck.cells
          have hf := (Blk.new W4 #[.int .i64 A.c0, .int .i64 A.c1, .int .i64 A.c2, .int .i64 A.c3, .int .i64 A.c4] 23).frozen k
          have hc := (show CkAt _ W4.heap.size A from (Blk.new W4 A.cells 23).ck).2 k hkl
          unfold Ck.cells at hc
          have hset : ([.int .i64 A.c0, .int .i64 A.c1, .int .i64 A.c2, .int .i64 A.c3, .int .i64 A.c4] : List Value).set k (.int .i64 1048576) = ([.int .i64 f.c0, .int .i64 f.c1, .int .i64 f.c2, .int .i64 f.c3, .int .i64 f.c4] : List Value) := by have := HCS.out; unfold Ck.cells at this; simpa using this
          go_wp2_with fail
          with_reducible refine (CF.out _).mono ?_
          rintro e w5 ⟨rfl, hb5⟩
          clear a0 a1 a2 a3 a4 hf hc hset
          have u5 : Lex.Up W4 (w5.alloc (.cells #[.int .i64 0, .int .i64 0, .int .i64 0, .int .i64 0, .int .i64 0] 23)) := (((Below.refl _ _).alloc (Nat.le_refl _) _).trans (hb5.mono (by simp))).alloc (Nat.le_trans (by simp) hb5.size) _
          have K5 := Lib.hid (K4.out.up u5); have N5 := Lib.hid (N4.out.up u5); have Z5 := Lib.hid (Blk.new w5 #[.int .i64 0, .int .i64 0, .int .i64 0, .int .i64 0, .int .i64 0] 23)
          have B5 := Lib.hid (B4.out.trans (u5.mono B4.out.size))
          clear K4 N4 B4 u5 hb5
          go_wp2
          refine wp_named (fun W6 hW6 => ?_)
          rw [← hW6] at K5 N5 Z5 B5
          clear hW6
          have X1 : Hid (IntKind.i64.wrap (g + 1) = g + 1) := Lib.hid (IntWalk.i64_in _ ⟨by omega, by omega⟩)
          refine Lex.wp_region_lex (by kernel_rfl) (by kernel_rfl) (by rfl) ?_
          repeat (first | (refine Lex.lex_skip (by rfl) (by rfl) (by rfl) ?_; simp only [Act.put, List.setIfInBounds_toArray, List.set_cons_zero, List.set_cons_succ]) | (refine Lex.lex_pure (c := ?_) (by rfl) (by rfl) (fun w' hC => ?_) (by rfl) ?_; rotate_left 1; (have ⟨a0, a1, a2, a3, a4⟩ := (K5.out.up hC).ck.cells; have ⟨b0, b1, b2, b3, b4⟩ := (N5.out.up hC).ck.cells; go_simp; rfl); simp only [Act.put, List.setIfInBounds_toArray, List.set_cons_zero, List.set_cons_succ]))
          refine Lex.lex_callv (f := 16) (args := #[.agg #[.int .i64 A.c0, .int .i64 A.c1, .int .i64 A.c2, .int .i64 A.c3, .int .i64 A.c4], .agg #[.int .i64 b.c0, .int .i64 b.c1, .int .i64 b.c2, .int .i64 b.c3, .int .i64 b.c4]]) (.bool true) (by rfl) (by rfl) (fun w' => by go_simp) (fun w' hC => L1.out w') (by rfl) ?_
          simp only [Act.put, List.setIfInBounds_toArray, List.set_cons_zero, List.set_cons_succ]
          repeat (first | (refine Lex.lex_skip (by rfl) (by rfl) (by rfl) ?_; simp only [Act.put, List.setIfInBounds_toArray, List.set_cons_zero, List.set_cons_succ]) | (refine Lex.lex_pure (c := ?_) (by rfl) (by rfl) (fun w' hC => ?_) (by rfl) ?_; rotate_left 1; (have ⟨a0, a1, a2, a3, a4⟩ := (K5.out.up hC).ck.cells; have ⟨b0, b1, b2, b3, b4⟩ := (N5.out.up hC).ck.cells; go_simp; rfl); simp only [Act.put, List.setIfInBounds_toArray, List.set_cons_zero, List.set_cons_succ]))
          refine Lex.lex_callv (f := 16) (args := #[.agg #[.int .i64 b.c0, .int .i64 b.c1, .int .i64 b.c2, .int .i64 b.c3, .int .i64 b.c4], .agg #[.int .i64 A.c0, .int .i64 A.c1, .int .i64 A.c2, .int .i64 A.c3, .int .i64 A.c4]]) (.bool false) (by rfl) (by rfl) (fun w' => by go_simp) (fun w' hC => L2.out w') (by rfl) ?_
          simp only [Act.put, List.setIfInBounds_toArray, List.set_cons_zero, List.set_cons_succ]
          repeat (first | (refine Lex.lex_skip (by rfl) (by rfl) (by rfl) ?_; simp only [Act.put, List.setIfInBounds_toArray, List.set_cons_zero, List.set_cons_succ]) | (refine Lex.lex_pure (c := ?_) (by rfl) (by rfl) (fun w' hC => ?_) (by rfl) ?_; rotate_left 1; (have ak := (K5.out.up hC).ck.2 k hkl; rw [HG.out] at ak; have bk := (N5.out.up hC).ck.2 k hkl; rw [GB.out] at bk; have z0 := (Z5.out.up hC).cell (j := 0) rfl; have z1 := (Z5.out.up hC).cell (j := 1) rfl; have z2 := (Z5.out.up hC).cell (j := 2) rfl; have z3 := (Z5.out.up hC).cell (j := 3) rfl; have z4 := (Z5.out.up hC).cell (j := 4) rfl; have hx := X1.out; go_simp; rfl); simp only [Act.put, List.setIfInBounds_toArray, List.set_cons_zero, List.set_cons_succ]))
          refine Lex.lex_nil (fun W7 hC => ?_)
          simp only [Lex.fill]
          have hB := Lib.hid (B5.out.trans (hC.mono B5.out.size))
          clear hC
          go_wp2
          go_ret
          exact ⟨rfl, hB.out⟩
      · have HN := HNO.out hR
        have hR' : (R == (k : Int)) = false := by simpa using hR
        clear HNN HNO hR
        have m0 := M2.out.cell (j := 0) rfl
        go_quiet (fail)
        clear m0 hR'
        cases h
        · go_wp2
          refine wp_named (fun W3 hW3 => ?_)
          have K3 : Hid (Blk W3 w.heap.size A.cells 23) := by rw [hW3]; exact K2
          have M3 : Hid (Blk W3 (w.heap.size + 1) #[.int .i64 R, .int .i64 N] 35) := by rw [hW3]; exact M2
          have N3 : Hid (Blk W3 w2.heap.size b.cells 23) := by rw [hW3]; exact N2
          have B3 : Hid (Below w.heap.size w W3) := by rw [hW3]; exact Lib.hid (below_dN B2.out _)
          clear K2 M2 N2 B2 hW3
          refine Lex.wp_region_lex (by kernel_rfl) (by kernel_rfl) (by rfl) ?_
          repeat (first | (refine Lex.lex_skip (by rfl) (by rfl) (by rfl) ?_; simp only [Act.put, List.setIfInBounds_toArray, List.set_cons_zero, List.set_cons_succ]) | (refine Lex.lex_pure (c := ?_) (by rfl) (by rfl) (fun w' hC => ?_) (by rfl) ?_; rotate_left 1; (have ⟨b0, b1, b2, b3, b4⟩ := (N3.out.up hC).ck.cells; have m0 := (M3.out.up hC).cell (j := 0) rfl; have m1 := (M3.out.up hC).cell (j := 1) rfl; go_simp; rfl); simp only [Act.put, List.setIfInBounds_toArray, List.set_cons_zero, List.set_cons_succ]))
          refine Lex.lex_callv (f := 12) (args := #[.agg #[.int .i64 b.c0, .int .i64 b.c1, .int .i64 b.c2, .int .i64 b.c3, .int .i64 b.c4], .int .i64 R, .int .i64 N]) (.bool false) (by rfl) (by rfl) (fun w' => by go_simp) (fun w' hC => HN.out w') (by rfl) ?_
          simp only [Act.put, List.setIfInBounds_toArray, List.set_cons_zero, List.set_cons_succ]
          repeat (first | (refine Lex.lex_skip (by rfl) (by rfl) (by rfl) ?_; simp only [Act.put, List.setIfInBounds_toArray, List.set_cons_zero, List.set_cons_succ]) | (refine Lex.lex_pure (c := ?_) (by rfl) (by rfl) (fun w' hC => ?_) (by rfl) ?_; rotate_left 1; (have ⟨a0, a1, a2, a3, a4⟩ := (K3.out.up hC).ck.cells; have m0 := (M3.out.up hC).cell (j := 0) rfl; have m1 := (M3.out.up hC).cell (j := 1) rfl; go_simp; rfl); simp only [Act.put, List.setIfInBounds_toArray, List.set_cons_zero, List.set_cons_succ]))
          refine Lex.lex_callv (f := 12) (args := #[.agg #[.int .i64 A.c0, .int .i64 A.c1, .int .i64 A.c2, .int .i64 A.c3, .int .i64 A.c4], .int .i64 R, .int .i64 N]) (.bool false) (by rfl) (by rfl) (fun w' => by go_simp) (fun w' hC => HA.out w') (by rfl) ?_
          simp only [Act.put, List.setIfInBounds_toArray, List.set_cons_zero, List.set_cons_succ]
          repeat (first | (refine Lex.lex_skip (by rfl) (by rfl) (by rfl) ?_; simp only [Act.put, List.setIfInBounds_toArray, List.set_cons_zero, List.set_cons_succ]) | (refine Lex.lex_pure (c := ?_) (by rfl) (by rfl) (fun w' hC => ?_) (by rfl) ?_; rotate_left 1; (go_simp; rfl); simp only [Act.put, List.setIfInBounds_toArray, List.set_cons_zero, List.set_cons_succ]))
          refine Lex.lex_nil (fun W4 hC => ?_)
          simp only [Lex.fill]
          have K4 := Lib.hid (K3.out.up hC); have N4 := Lib.hid (N3.out.up hC)
          have B4 := Lib.hid (B3.out.trans (hC.mono B3.out.size))
          have hn4 : w2.heap.size < W4.heap.size := N4.out.lt
          have hn5 : w.heap.size < W4.heap.size := K4.out.lt
          clear K3 M3 N3 B3 hC
          have ⟨a0, a1, a2, a3, a4⟩ := K4.out.ck.cells
          have hf := (Blk.new W4 #[.int .i64 A.c0, .int .i64 A.c1, .int .i64 A.c2, .int .i64 A.c3, .int .i64 A.c4] 23).frozen k
          have hc := (show CkAt _ W4.heap.size A from (Blk.new W4 A.cells 23).ck).2 k hkl
          unfold Ck.cells at hc
          have hset : ([.int .i64 A.c0, .int .i64 A.c1, .int .i64 A.c2, .int .i64 A.c3, .int .i64 A.c4] : List Value).set k (.int .i64 1048576) = ([.int .i64 f.c0, .int .i64 f.c1, .int .i64 f.c2, .int .i64 f.c3, .int .i64 f.c4] : List Value) := by have := HCS.out; unfold Ck.cells at this; simpa using this
          go_wp2_with fail
          with_reducible refine (CF.out _).mono ?_
          rintro e w5 ⟨rfl, hb5⟩
          clear a0 a1 a2 a3 a4 hf hc hset
          have u5 : Lex.Up W4 (w5.alloc (.cells #[.int .i64 0, .int .i64 0, .int .i64 0, .int .i64 0, .int .i64 0] 23)) := (((Below.refl _ _).alloc (Nat.le_refl _) _).trans (hb5.mono (by simp))).alloc (Nat.le_trans (by simp) hb5.size) _
          have K5 := Lib.hid (K4.out.up u5); have N5 := Lib.hid (N4.out.up u5); have Z5 := Lib.hid (Blk.new w5 #[.int .i64 0, .int .i64 0, .int .i64 0, .int .i64 0, .int .i64 0] 23)
          have B5 := Lib.hid (B4.out.trans (u5.mono B4.out.size))
          clear K4 N4 B4 u5 hb5
          go_wp2
          refine wp_named (fun W6 hW6 => ?_)
          rw [← hW6] at K5 N5 Z5 B5
          clear hW6
          have X1 : Hid (IntKind.i64.wrap (g + 1) = g + 1) := Lib.hid (IntWalk.i64_in _ ⟨by omega, by omega⟩)
          refine Lex.wp_region_lex (by kernel_rfl) (by kernel_rfl) (by rfl) ?_
          repeat (first | (refine Lex.lex_skip (by rfl) (by rfl) (by rfl) ?_; simp only [Act.put, List.setIfInBounds_toArray, List.set_cons_zero, List.set_cons_succ]) | (refine Lex.lex_pure (c := ?_) (by rfl) (by rfl) (fun w' hC => ?_) (by rfl) ?_; rotate_left 1; (have ⟨a0, a1, a2, a3, a4⟩ := (K5.out.up hC).ck.cells; have ⟨b0, b1, b2, b3, b4⟩ := (N5.out.up hC).ck.cells; go_simp; rfl); simp only [Act.put, List.setIfInBounds_toArray, List.set_cons_zero, List.set_cons_succ]))
          refine Lex.lex_callv (f := 16) (args := #[.agg #[.int .i64 A.c0, .int .i64 A.c1, .int .i64 A.c2, .int .i64 A.c3, .int .i64 A.c4], .agg #[.int .i64 b.c0, .int .i64 b.c1, .int .i64 b.c2, .int .i64 b.c3, .int .i64 b.c4]]) (.bool true) (by rfl) (by rfl) (fun w' => by go_simp) (fun w' hC => L1.out w') (by rfl) ?_
          simp only [Act.put, List.setIfInBounds_toArray, List.set_cons_zero, List.set_cons_succ]
          repeat (first | (refine Lex.lex_skip (by rfl) (by rfl) (by rfl) ?_; simp only [Act.put, List.setIfInBounds_toArray, List.set_cons_zero, List.set_cons_succ]) | (refine Lex.lex_pure (c := ?_) (by rfl) (by rfl) (fun w' hC => ?_) (by rfl) ?_; rotate_left 1; (have ⟨a0, a1, a2, a3, a4⟩ := (K5.out.up hC).ck.cells; have ⟨b0, b1, b2, b3, b4⟩ := (N5.out.up hC).ck.cells; go_simp; rfl); simp only [Act.put, List.setIfInBounds_toArray, List.set_cons_zero, List.set_cons_succ]))
          refine Lex.lex_callv (f := 16) (args := #[.agg #[.int .i64 b.c0, .int .i64 b.c1, .int .i64 b.c2, .int .i64 b.c3, .int .i64 b.c4], .agg #[.int .i64 A.c0, .int .i64 A.c1, .int .i64 A.c2, .int .i64 A.c3, .int .i64 A.c4]]) (.bool false) (by rfl) (by rfl) (fun w' => by go_simp) (fun w' hC => L2.out w') (by rfl) ?_
          simp only [Act.put, List.setIfInBounds_toArray, List.set_cons_zero, List.set_cons_succ]
          repeat (first | (refine Lex.lex_skip (by rfl) (by rfl) (by rfl) ?_; simp only [Act.put, List.setIfInBounds_toArray, List.set_cons_zero, List.set_cons_succ]) | (refine Lex.lex_pure (c := ?_) (by rfl) (by rfl) (fun w' hC => ?_) (by rfl) ?_; rotate_left 1; (have ak := (K5.out.up hC).ck.2 k hkl; rw [HG.out] at ak; have bk := (N5.out.up hC).ck.2 k hkl; rw [GB.out] at bk; have z0 := (Z5.out.up hC).cell (j := 0) rfl; have z1 := (Z5.out.up hC).cell (j := 1) rfl; have z2 := (Z5.out.up hC).cell (j := 2) rfl; have z3 := (Z5.out.up hC).cell (j := 3) rfl; have z4 := (Z5.out.up hC).cell (j := 4) rfl; have hx := X1.out; go_simp; rfl); simp only [Act.put, List.setIfInBounds_toArray, List.set_cons_zero, List.set_cons_succ]))
          refine Lex.lex_nil (fun W7 hC => ?_)
          simp only [Lex.fill]
          have hB := Lib.hid (B5.out.trans (hC.mono B5.out.size))
          clear hC
          go_wp2
          go_ret
          exact ⟨rfl, hB.out⟩
        · go_wp2
          refine wp_named (fun W3 hW3 => ?_)
          have K3 : Hid (Blk W3 w.heap.size A.cells 23) := by rw [hW3]; exact K2
          have M3 : Hid (Blk W3 (w.heap.size + 1) #[.int .i64 R, .int .i64 N] 35) := by rw [hW3]; exact M2
          have N3 : Hid (Blk W3 w2.heap.size b.cells 23) := by rw [hW3]; exact N2
          have B3 : Hid (Below w.heap.size w W3) := by rw [hW3]; exact Lib.hid (below_dN B2.out _)
          clear K2 M2 N2 B2 hW3
          refine Lex.wp_region_lex (by kernel_rfl) (by kernel_rfl) (by rfl) ?_
          repeat (first | (refine Lex.lex_skip (by rfl) (by rfl) (by rfl) ?_; simp only [Act.put, List.setIfInBounds_toArray, List.set_cons_zero, List.set_cons_succ]) | (refine Lex.lex_pure (c := ?_) (by rfl) (by rfl) (fun w' hC => ?_) (by rfl) ?_; rotate_left 1; (have ⟨b0, b1, b2, b3, b4⟩ := (N3.out.up hC).ck.cells; have m0 := (M3.out.up hC).cell (j := 0) rfl; have m1 := (M3.out.up hC).cell (j := 1) rfl; go_simp; rfl); simp only [Act.put, List.setIfInBounds_toArray, List.set_cons_zero, List.set_cons_succ]))
          refine Lex.lex_callv (f := 12) (args := #[.agg #[.int .i64 b.c0, .int .i64 b.c1, .int .i64 b.c2, .int .i64 b.c3, .int .i64 b.c4], .int .i64 R, .int .i64 N]) (.bool true) (by rfl) (by rfl) (fun w' => by go_simp) (fun w' hC => HN.out w') (by rfl) ?_
          simp only [Act.put, List.setIfInBounds_toArray, List.set_cons_zero, List.set_cons_succ]
          repeat (first | (refine Lex.lex_skip (by rfl) (by rfl) (by rfl) ?_; simp only [Act.put, List.setIfInBounds_toArray, List.set_cons_zero, List.set_cons_succ]) | (refine Lex.lex_pure (c := ?_) (by rfl) (by rfl) (fun w' hC => ?_) (by rfl) ?_; rotate_left 1; (have ⟨a0, a1, a2, a3, a4⟩ := (K3.out.up hC).ck.cells; have m0 := (M3.out.up hC).cell (j := 0) rfl; have m1 := (M3.out.up hC).cell (j := 1) rfl; go_simp; rfl); simp only [Act.put, List.setIfInBounds_toArray, List.set_cons_zero, List.set_cons_succ]))
          refine Lex.lex_callv (f := 12) (args := #[.agg #[.int .i64 A.c0, .int .i64 A.c1, .int .i64 A.c2, .int .i64 A.c3, .int .i64 A.c4], .int .i64 R, .int .i64 N]) (.bool true) (by rfl) (by rfl) (fun w' => by go_simp) (fun w' hC => HA.out w') (by rfl) ?_
          simp only [Act.put, List.setIfInBounds_toArray, List.set_cons_zero, List.set_cons_succ]
          repeat (first | (refine Lex.lex_skip (by rfl) (by rfl) (by rfl) ?_; simp only [Act.put, List.setIfInBounds_toArray, List.set_cons_zero, List.set_cons_succ]) | (refine Lex.lex_pure (c := ?_) (by rfl) (by rfl) (fun w' hC => ?_) (by rfl) ?_; rotate_left 1; (go_simp; rfl); simp only [Act.put, List.setIfInBounds_toArray, List.set_cons_zero, List.set_cons_succ]))
          refine Lex.lex_nil (fun W4 hC => ?_)
          simp only [Lex.fill]
          have K4 := Lib.hid (K3.out.up hC); have N4 := Lib.hid (N3.out.up hC)
          have B4 := Lib.hid (B3.out.trans (hC.mono B3.out.size))
          have hn4 : w2.heap.size < W4.heap.size := N4.out.lt
          have hn5 : w.heap.size < W4.heap.size := K4.out.lt
          clear K3 M3 N3 B3 hC
          have ⟨a0, a1, a2, a3, a4⟩ := K4.out.ck.cells
          have hf := (Blk.new W4 #[.int .i64 A.c0, .int .i64 A.c1, .int .i64 A.c2, .int .i64 A.c3, .int .i64 A.c4] 23).frozen k
          have hc := (show CkAt _ W4.heap.size A from (Blk.new W4 A.cells 23).ck).2 k hkl
          unfold Ck.cells at hc
          have hset : ([.int .i64 A.c0, .int .i64 A.c1, .int .i64 A.c2, .int .i64 A.c3, .int .i64 A.c4] : List Value).set k (.int .i64 1048576) = ([.int .i64 f.c0, .int .i64 f.c1, .int .i64 f.c2, .int .i64 f.c3, .int .i64 f.c4] : List Value) := by have := HCS.out; unfold Ck.cells at this; simpa using this
          go_wp2_with fail
          with_reducible refine (CF.out _).mono ?_
          rintro e w5 ⟨rfl, hb5⟩
          clear a0 a1 a2 a3 a4 hf hc hset
          have u5 : Lex.Up W4 (w5.alloc (.cells #[.int .i64 0, .int .i64 0, .int .i64 0, .int .i64 0, .int .i64 0] 23)) := (((Below.refl _ _).alloc (Nat.le_refl _) _).trans (hb5.mono (by simp))).alloc (Nat.le_trans (by simp) hb5.size) _
          have K5 := Lib.hid (K4.out.up u5); have N5 := Lib.hid (N4.out.up u5); have Z5 := Lib.hid (Blk.new w5 #[.int .i64 0, .int .i64 0, .int .i64 0, .int .i64 0, .int .i64 0] 23)
          have B5 := Lib.hid (B4.out.trans (u5.mono B4.out.size))
          clear K4 N4 B4 u5 hb5
          go_wp2
          refine wp_named (fun W6 hW6 => ?_)
          rw [← hW6] at K5 N5 Z5 B5
          clear hW6
          have X1 : Hid (IntKind.i64.wrap (g + 1) = g + 1) := Lib.hid (IntWalk.i64_in _ ⟨by omega, by omega⟩)
          refine Lex.wp_region_lex (by kernel_rfl) (by kernel_rfl) (by rfl) ?_
          repeat (first | (refine Lex.lex_skip (by rfl) (by rfl) (by rfl) ?_; simp only [Act.put, List.setIfInBounds_toArray, List.set_cons_zero, List.set_cons_succ]) | (refine Lex.lex_pure (c := ?_) (by rfl) (by rfl) (fun w' hC => ?_) (by rfl) ?_; rotate_left 1; (have ⟨a0, a1, a2, a3, a4⟩ := (K5.out.up hC).ck.cells; have ⟨b0, b1, b2, b3, b4⟩ := (N5.out.up hC).ck.cells; go_simp; rfl); simp only [Act.put, List.setIfInBounds_toArray, List.set_cons_zero, List.set_cons_succ]))
          refine Lex.lex_callv (f := 16) (args := #[.agg #[.int .i64 A.c0, .int .i64 A.c1, .int .i64 A.c2, .int .i64 A.c3, .int .i64 A.c4], .agg #[.int .i64 b.c0, .int .i64 b.c1, .int .i64 b.c2, .int .i64 b.c3, .int .i64 b.c4]]) (.bool true) (by rfl) (by rfl) (fun w' => by go_simp) (fun w' hC => L1.out w') (by rfl) ?_
          simp only [Act.put, List.setIfInBounds_toArray, List.set_cons_zero, List.set_cons_succ]
          repeat (first | (refine Lex.lex_skip (by rfl) (by rfl) (by rfl) ?_; simp only [Act.put, List.setIfInBounds_toArray, List.set_cons_zero, List.set_cons_succ]) | (refine Lex.lex_pure (c := ?_) (by rfl) (by rfl) (fun w' hC => ?_) (by rfl) ?_; rotate_left 1; (have ⟨a0, a1, a2, a3, a4⟩ := (K5.out.up hC).ck.cells; have ⟨b0, b1, b2, b3, b4⟩ := (N5.out.up hC).ck.cells; go_simp; rfl); simp only [Act.put, List.setIfInBounds_toArray, List.set_cons_zero, List.set_cons_succ]))
          refine Lex.lex_callv (f := 16) (args := #[.agg #[.int .i64 b.c0, .int .i64 b.c1, .int .i64 b.c2, .int .i64 b.c3, .int .i64 b.c4], .agg #[.int .i64 A.c0, .int .i64 A.c1, .int .i64 A.c2, .int .i64 A.c3, .int .i64 A.c4]]) (.bool false) (by rfl) (by rfl) (fun w' => by go_simp) (fun w' hC => L2.out w') (by rfl) ?_
          simp only [Act.put, List.setIfInBounds_toArray, List.set_cons_zero, List.set_cons_succ]
          repeat (first | (refine Lex.lex_skip (by rfl) (by rfl) (by rfl) ?_; simp only [Act.put, List.setIfInBounds_toArray, List.set_cons_zero, List.set_cons_succ]) | (refine Lex.lex_pure (c := ?_) (by rfl) (by rfl) (fun w' hC => ?_) (by rfl) ?_; rotate_left 1; (have ak := (K5.out.up hC).ck.2 k hkl; rw [HG.out] at ak; have bk := (N5.out.up hC).ck.2 k hkl; rw [GB.out] at bk; have z0 := (Z5.out.up hC).cell (j := 0) rfl; have z1 := (Z5.out.up hC).cell (j := 1) rfl; have z2 := (Z5.out.up hC).cell (j := 2) rfl; have z3 := (Z5.out.up hC).cell (j := 3) rfl; have z4 := (Z5.out.up hC).cell (j := 4) rfl; have hx := X1.out; go_simp; rfl); simp only [Act.put, List.setIfInBounds_toArray, List.set_cons_zero, List.set_cons_succ]))
          refine Lex.lex_nil (fun W7 hC => ?_)
          simp only [Lex.fill]
          have hB := Lib.hid (B5.out.trans (hC.mono B5.out.size))
          clear hC
          go_wp2
          go_ret
          exact ⟨rfl, hB.out⟩
end Go.Proofs.Ytieldmgfhdhcdaa
