/-
  The walk of StampHeights.
-/
import Derived.Test.YthalldlnkmdngaaLaws4A
namespace Go.Proofs.Ythalldlnkmdngaa
open Go.RowKit
attribute [local go_sem ↓] Go.wp_at_zero Go.wp_at_succ

theorem Stp.less_high {l h : Stp} (e : l.h < h.h) : Stp.less l h = true ∧ Stp.less h l = false := ⟨by rw [Stp.less_iff]; omega, by rw [Stp.less_not]; omega⟩
theorem Stp.last_two {x y : Stp} (h : Stp.less x y = true) : Stp.last [x, y] = 1 ∧ Stp.last [y, x] = 0 := by
  have h2 : Stp.less y x = false := by rw [Stp.less_not]; rw [Stp.less_iff] at h; omega
  have hne : x ≠ y := by rintro rfl; rw [Stp.less_self] at h; cases h
  have m1 : Stp.mx [x, y] = y := by simp [Stp.mx, h]
  have m2 : Stp.mx [y, x] = y := by simp [Stp.mx, h2]
  constructor
  · refine Stp.last_eq (k := 1) (by simp) (by rw [m1]; rfl) fun j hj => ?_
    obtain rfl : j = 0 := by omega
    rw [m1]; exact hne
  · exact Stp.last_eq (k := 0) (by simp) (by rw [m2]; rfl) fun j hj => absurd hj (by omega)
def stpFact (xs : List Stp) : Lex.Fact := fun v w => ∃ A cap, v = .slice A xs.length cap ∧ Sl w 2 A xs.length cap (Stp.flat xs)
theorem stpFact_up (xs : List Stp) : Lex.UpC (stpFact xs) := fun v w w' hu h => by
  obtain ⟨A, cap, rfl, hs⟩ := h
  exact ⟨A, cap, rfl, hs.up hu⟩

/-- A slice of two stamps, made; and its latest one asked for. -/
theorem two_made (w : World) (x y : Stp) : Lex.Up w (w.alloc (.cells #[.int .i64 x.h, .int .i64 x.r, .int .i64 y.h, .int .i64 y.r] 23)) ∧
    stpFact [x, y] (.slice (some ⟨w.heap.size, 0, none⟩) 2 2) (w.alloc (.cells #[.int .i64 x.h, .int .i64 x.r, .int .i64 y.h, .int .i64 y.r] 23)) :=
  ⟨(Below.refl _ _).alloc (Nat.le_refl _) _, some ⟨w.heap.size, 0, none⟩, 2, rfl, Sl.of_blk (cs := Stp.flat [x, y]) (n := 2) (Blk.new w _ _) rfl (by decide)⟩

set_option maxRecDepth 100000 in
set_option maxHeartbeats 4000000 in
theorem law_heights (h r0 r1 : Int) (m : Nat) (w : World) (hh : -9223372036854775808 ≤ h ∧ h ≤ 9223372036854775807) (hm : m < 65536) :
    Calls Try.prog 7 #[.int .i64 h, .agg #[.int .i64 r0, .int .i64 r1], .int .u16 m] w fun e w' => e = .returned (.bool true) ∧ Below w.heap.size w w' := by
  have C0 := Lib.hid (fun w => shown_any w)
  have CL := Lib.hid (fun a b w => less_any a b w)
  have CA := Lib.hid (fun A cap xs w h => last_any A cap xs w h)
  unfold Stp.val at *
  go_enter Try.func7, Try.ntmps7
  go_wp2_with fail
  have u0 : Lex.Up w (w.alloc (.cells #[.int .i64 r0, .int .i64 r1] 33)) := (Below.refl w.heap.size w).alloc (Nat.le_refl _) _
  have U0 := Lib.hid u0; clear u0
  have KR := Lib.hid (Blk.new w #[.int .i64 r0, .int .i64 r1] 33)
  refine (C0.out _).mono ?_
  rintro e w1 ⟨rfl, hb1⟩
  have KR1 := Lib.hid (KR.out.up hb1); have U1 := Lib.hid (U0.out.trans hb1)
  clear KR U0 hb1
  have d0 := KR1.out.cell (j := 0) rfl
  have d1 := KR1.out.cell (j := 1) rfl
  have hs := KR1.out.lt
  have s1 : w.heap.size < w1.heap.size + 1 := by omega
  have s2 : w.heap.size < w1.heap.size + 1 + 1 := by omega
  have s3 : w.heap.size < w1.heap.size + 1 + 1 + 1 := by omega
  have n0 : w.heap.size ≠ w1.heap.size := by omega
  have n1 : w.heap.size ≠ w1.heap.size + 1 := by omega
  have n2 : w.heap.size ≠ w1.heap.size + 1 + 1 := by omega
  go_wp2
  have hlh : min h 4611686018427387904 < min h 4611686018427387904 + 1 + (m : Int) := by omega
  generalize min h 4611686018427387904 + 1 + (m : Int) = hi at *
  generalize min h 4611686018427387904 = lo at *
  obtain ⟨x, hx⟩ : ∃ x : Stp, x = ⟨lo, r0⟩ := ⟨_, rfl⟩
  obtain ⟨y, hy⟩ : ∃ y : Stp, y = ⟨hi, r1⟩ := ⟨_, rfl⟩
  obtain ⟨a, ha⟩ : ∃ a : Stp, a = ⟨h, min r0 r1⟩ := ⟨_, rfl⟩
  obtain ⟨b, hb⟩ : ∃ b : Stp, b = ⟨h, max r0 r1⟩ := ⟨_, rfl⟩
  obtain ⟨L1, L2⟩ := Stp.less_high (l := x) (h := y) (by rw [hx, hy]; exact hlh)
  have hab : Stp.less a b = (r0 != r1) := by
    show Stp.less a b = !(r0 == r1)
    have e1 := Stp.less_iff a b
    rw [ha, hb] at e1 ⊢
    by_cases e : r0 = r1
    · have : (r0 == r1) = true := by simpa using e
      rw [this, Bool.not_true, Stp.less_not]
      show ¬ (h < h ∨ h = h ∧ min r0 r1 < max r0 r1)
      omega
    · have : (r0 == r1) = false := by simpa using e
      rw [this, Bool.not_false, e1]
      show h < h ∨ h = h ∧ min r0 r1 < max r0 r1
      omega
  have CXY := Lib.hid (fun w => by have := CL.out x y w; rwa [L1] at this)
  have CYX := Lib.hid (fun w => by have := CL.out y x w; rwa [L2] at this)
  have CAB := Lib.hid (fun w => by have := CL.out a b w; rwa [hab] at this)
  have Z1 := Lib.hid (fun A cap w h => by have := CA.out A cap [x, y] w h; rwa [(Stp.last_two L1).1] at this)
  have Z2 := Lib.hid (fun A cap w h => by have := CA.out A cap [y, x] w h; rwa [(Stp.last_two L1).2] at this)
  refine wp_named (fun W hW => ?_)
  have KX : Hid (Blk W w1.heap.size x.cells 23) := by
    rw [hW, hx]; exact Lib.hid ((((Blk.new w1 _ _).alloc _).alloc _).alloc _)
  have KY : Hid (Blk W (w1.heap.size + 1) y.cells 23) := by
    rw [hW, hy]; refine Lib.hid ?_; show Blk _ _ #[.int .i64 hi, .int .i64 r1] _; exact (by have := ((Blk.new (w1.alloc (.cells #[.int .i64 lo, .int .i64 r0] 23)) #[.int .i64 hi, .int .i64 r1] 23).alloc (.cells #[.int .i64 h, .int .i64 (min r0 r1)] 23)).alloc (.cells #[.int .i64 h, .int .i64 (max r0 r1)] 23); simpa only [World.size_alloc] using this)
  have KA : Hid (Blk W (w1.heap.size + 1 + 1) a.cells 23) := by
    rw [hW, ha]; refine Lib.hid ?_; show Blk _ _ #[.int .i64 h, .int .i64 (min r0 r1)] _; exact (by have := (Blk.new ((w1.alloc (.cells #[.int .i64 lo, .int .i64 r0] 23)).alloc (.cells #[.int .i64 hi, .int .i64 r1] 23)) #[.int .i64 h, .int .i64 (min r0 r1)] 23).alloc (.cells #[.int .i64 h, .int .i64 (max r0 r1)] 23); simpa only [World.size_alloc] using this)
  have KB : Hid (Blk W (w1.heap.size + 1 + 1 + 1) b.cells 23) := by
    rw [hW, hb]; refine Lib.hid ?_; show Blk _ _ #[.int .i64 h, .int .i64 (max r0 r1)] _; exact (by have := (Blk.new (((w1.alloc (.cells #[.int .i64 lo, .int .i64 r0] 23)).alloc (.cells #[.int .i64 hi, .int .i64 r1] 23)).alloc (.cells #[.int .i64 h, .int .i64 (min r0 r1)] 23)) #[.int .i64 h, .int .i64 (max r0 r1)] 23); simpa only [World.size_alloc] using this)
  have u4 : Lex.Up w1 W := by rw [hW]; exact ((((Below.refl w1.heap.size w1).alloc (Nat.le_refl _) _).alloc (by simp) _).alloc (by simp; omega) _).alloc (by simp; omega) _
  have KR : Hid (Blk W w.heap.size #[.int .i64 r0, .int .i64 r1] 33) := Lib.hid (KR1.out.up u4)
  have BW := Lib.hid (U1.out.trans u4)
  have FX := Lib.hid (fun w' (h : Lex.Up W w') => (KX.out.up h).st)
  have FY := Lib.hid (fun w' (h : Lex.Up W w') => (KY.out.up h).st)
  have FA := Lib.hid (fun w' (h : Lex.Up W w') => (KA.out.up h).st)
  have FB := Lib.hid (fun w' (h : Lex.Up W w') => (KB.out.up h).st)
  have FR := Lib.hid (fun w' (h : Lex.Up W w') => (show w'.cell? ⟨w.heap.size, 0, none⟩ = some (.int .i64 r0) ∧ w'.cell? ⟨w.heap.size, 1, none⟩ = some (.int .i64 r1) from ⟨(KR.out.up h).cell rfl, (KR.out.up h).cell rfl⟩))
  clear KX KY KA KB KR u4 KR1 U1 d0 d1 hs s1 s2 s3 n0 n1 n2 L1 L2 hab hx hy ha hb hlh CL CA C0
  cases hd : (r0 != r1)
  all_goals
    obtain ⟨v, hv⟩ : ∃ v, v = (r0 != r1) := ⟨_, rfl⟩
    rw [← hv] at CAB
    rw [hd] at hv
    refine Lex.wp_region_lex (by kernel_rfl) (by kernel_rfl) (by rfl) ?_
    repeat (first | (refine Lex.lex_skip (by rfl) (by rfl) (by rfl) ?_; simp only [Act.put, List.setIfInBounds_toArray, List.set_cons_zero, List.set_cons_succ]) | (refine Lex.lex_pure (c := ?_) (by rfl) (by rfl) (fun w' hC => ?_) (by rfl) ?_; rotate_left 1; (have ⟨a0, a1⟩ := FX.out w' hC; have ⟨b0, b1⟩ := FY.out w' hC; go_simp; rfl); simp only [Act.put, List.setIfInBounds_toArray, List.set_cons_zero, List.set_cons_succ]))
    refine Lex.lex_callv (f := 9) (args := #[.agg #[.int .i64 x.h, .int .i64 x.r], .agg #[.int .i64 y.h, .int .i64 y.r]]) (.bool true) (by rfl) (by rfl) (fun w' => by go_simp) (fun w' hC => CXY.out w') (by rfl) ?_
    simp only [Act.put, List.setIfInBounds_toArray, List.set_cons_zero, List.set_cons_succ]
    repeat (first | (refine Lex.lex_skip (by rfl) (by rfl) (by rfl) ?_; simp only [Act.put, List.setIfInBounds_toArray, List.set_cons_zero, List.set_cons_succ]) | (refine Lex.lex_pure (c := ?_) (by rfl) (by rfl) (fun w' hC => ?_) (by rfl) ?_; rotate_left 1; (have ⟨a0, a1⟩ := FX.out w' hC; have ⟨b0, b1⟩ := FY.out w' hC; go_simp; rfl); simp only [Act.put, List.setIfInBounds_toArray, List.set_cons_zero, List.set_cons_succ]))
    refine Lex.lex_callv (f := 9) (args := #[.agg #[.int .i64 y.h, .int .i64 y.r], .agg #[.int .i64 x.h, .int .i64 x.r]]) (.bool false) (by rfl) (by rfl) (fun w' => by go_simp) (fun w' hC => CYX.out w') (by rfl) ?_
    simp only [Act.put, List.setIfInBounds_toArray, List.set_cons_zero, List.set_cons_succ]
    repeat (first | (refine Lex.lex_skip (by rfl) (by rfl) (by rfl) ?_; simp only [Act.put, List.setIfInBounds_toArray, List.set_cons_zero, List.set_cons_succ]) | (refine Lex.lex_pure (c := ?_) (by rfl) (by rfl) (fun w' hC => ?_) (by rfl) ?_; rotate_left 1; (have ⟨a0, a1⟩ := FA.out w' hC; have ⟨b0, b1⟩ := FB.out w' hC; go_simp; rfl); simp only [Act.put, List.setIfInBounds_toArray, List.set_cons_zero, List.set_cons_succ]))
    refine Lex.lex_callv (f := 9) (args := #[.agg #[.int .i64 a.h, .int .i64 a.r], .agg #[.int .i64 b.h, .int .i64 b.r]]) (.bool v) (by rfl) (by rfl) (fun w' => by go_simp) (fun w' hC => CAB.out w') (by rfl) ?_
    simp only [Act.put, List.setIfInBounds_toArray, List.set_cons_zero, List.set_cons_succ]
    subst hv
    repeat (first | (refine Lex.lex_skip (by rfl) (by rfl) (by rfl) ?_; simp only [Act.put, List.setIfInBounds_toArray, List.set_cons_zero, List.set_cons_succ]) | (refine Lex.lex_pure (c := ?_) (by rfl) (by rfl) (fun w' hC => ?_) (by rfl) ?_; rotate_left 1; (have ⟨a0, a1⟩ := FR.out w' hC; go_simp; rfl); simp only [Act.put, List.setIfInBounds_toArray, List.set_cons_zero, List.set_cons_succ]))
    repeat (first | (refine Lex.lex_skip (by rfl) (by rfl) (by rfl) ?_; simp only [Act.put, List.setIfInBounds_toArray, List.set_cons_zero, List.set_cons_succ]) | (refine Lex.lex_pure (c := ?_) (by rfl) (by rfl) (fun w' hC => ?_) (by rfl) ?_; rotate_left 1; (have ⟨a0, a1⟩ := FX.out w' hC; have ⟨b0, b1⟩ := FY.out w' hC; go_simp; rfl); simp only [Act.put, List.setIfInBounds_toArray, List.set_cons_zero, List.set_cons_succ]))
    refine Lex.lex_make (v := fun w => .slice (some ⟨w.heap.size, 0, none⟩) 2 2) (f := fun w => w.alloc (.cells #[.int .i64 y.h, .int .i64 y.r, .int .i64 x.h, .int .i64 x.r] 23)) 67 (stpFact [y, x]) (by rfl) (by rfl) (by rfl) (stpFact_up _) (fun w' hC => ?_) (fun w' _ => two_made w' y x) (by rfl) ?_
    · have := hC; clear this; go_simp
    refine Lex.lex_callof (f := 11) (args := fun v => #[v]) (t := 67) (R := stpFact [y, x]) (.int .i64 0) (by rfl) (fun v => by rfl) (fun v w' => by go_simp) (fun w' _ v hv => ?_) (by rfl) ?_
    · obtain ⟨A1, c1, rfl, hs1⟩ := hv
      exact Z2.out A1 c1 w' hs1
    simp only [Act.put, List.setIfInBounds_toArray, List.set_cons_zero, List.set_cons_succ]
    repeat (first | (refine Lex.lex_skip (by rfl) (by rfl) (by rfl) ?_; simp only [Act.put, List.setIfInBounds_toArray, List.set_cons_zero, List.set_cons_succ]) | (refine Lex.lex_pure (c := ?_) (by rfl) (by rfl) (fun w' hC => ?_) (by rfl) ?_; rotate_left 1; (have ⟨a0, a1⟩ := FX.out w' hC; have ⟨b0, b1⟩ := FY.out w' hC; go_simp; rfl); simp only [Act.put, List.setIfInBounds_toArray, List.set_cons_zero, List.set_cons_succ]))
    refine Lex.lex_make (v := fun w => .slice (some ⟨w.heap.size, 0, none⟩) 2 2) (f := fun w => w.alloc (.cells #[.int .i64 x.h, .int .i64 x.r, .int .i64 y.h, .int .i64 y.r] 23)) 74 (stpFact [x, y]) (by rfl) (by rfl) (by rfl) (stpFact_up _) (fun w' hC => ?_) (fun w' _ => two_made w' x y) (by rfl) ?_
    · have := hC; clear this; go_simp
    refine Lex.lex_callof (f := 11) (args := fun v => #[v]) (t := 74) (R := stpFact [x, y]) (.int .i64 1) (by rfl) (fun v => by rfl) (fun v w' => by go_simp) (fun w' _ v hv => ?_) (by rfl) ?_
    · obtain ⟨A1, c1, rfl, hs1⟩ := hv
      exact Z1.out A1 c1 w' hs1
    simp only [Act.put, List.setIfInBounds_toArray, List.set_cons_zero, List.set_cons_succ]
    repeat (first | (refine Lex.lex_skip (by rfl) (by rfl) (by rfl) ?_; simp only [Act.put, List.setIfInBounds_toArray, List.set_cons_zero, List.set_cons_succ]) | (refine Lex.lex_pure (c := ?_) (by rfl) (by rfl) (fun w' hC => ?_) (by rfl) ?_; rotate_left 1; (go_simp; rfl); simp only [Act.put, List.setIfInBounds_toArray, List.set_cons_zero, List.set_cons_succ]))
    refine Lex.lex_nil (fun w5 hC => ?_)
    simp only [Lex.fill]
    refine fun _ _ _ _ => ?_
    have hB := Lib.hid (BW.out.trans hC)
    clear hC
    go_wp2
    go_ret
    exact ⟨rfl, hB.out⟩
end Go.Proofs.Ythalldlnkmdngaa
